import Derived.Test.YtjlfnelihbdhjaaGreatVtN
import Derived.Test.YtjlfnelihbdhjaaGreatRnF
import Derived.Test.YtjlfnelihbdhjaaGreatVtD
import Derived.Test.YtjlfnelihbdhjaaGreatLcT
import Derived.Test.YtjlfnelihbdhjaaGreatOvB
import Derived.Test.YtjlfnelihbdhjaaGreatGrA
import Derived.Lib.SmallJoins
import Derived.Deep.RegionHeld3
set_option maxRecDepth 100000
namespace Go.Proofs.YtjlfnelihbdhjaaGreat
open Go.RowKit Go.Maps
theorem addP_nodup (id:Int) (inh:List Sl):∀ (ms:List HM) (i:Nat),((addP id inh ms i).map Prod.fst).Nodup
  | [],i=>by simp [addP]
  | y::r,i=>by
    rw [addP]
    have ih:=addP_nodup id inh r (i+1)
    split
    · rw [List.singleton_append,List.map_cons,List.nodup_cons]
      refine ⟨fun h=>?_,ih⟩
      obtain ⟨x,hx,e⟩:=List.mem_map.1 h
      obtain ⟨j,m,_,_,rfl⟩:=addP_form _ _ _ _ _ hx
      injection e with _ e
      omega
    · exact ih
def RN (S:List Nat) (t:List Sl):Prop:=(t.map Prod.fst).Nodup∧∀ x∈t,∃ c∈S,x.1.1=(c:Int)
theorem grw_rn (A:Int×Int→List (Int×Int)) (k:Nat) (ms:List HM) (S:List Nat) (hk:k ∉ S) (t:List Sl) (ht:RN S t):RN (S++[k]) (grwP A (k:Int) ms t):=by
  refine ⟨?_,fun x hx=>?_⟩
  · rw [grw_roots,List.nodup_append]
    refine ⟨ht.1,addP_nodup _ _ _ _,fun a ha b hb=>?_⟩
    obtain ⟨x,hx,rfl⟩:=List.mem_map.1 ha
    obtain ⟨y,hy,rfl⟩:=List.mem_map.1 hb
    obtain ⟨c,hc,e⟩:=ht.2 x hx
    obtain ⟨j,m,_,_,rfl⟩:=addP_form _ _ _ _ _ hy
    intro e2
    rw [e2] at e
    have:c=k:=by
      have:(k:Int)=(c:Int):=e
      omega
    subst this
    exact hk hc
  · rw [grwP] at hx
    rcases List.mem_append.1 hx with hx|hx
    · obtain ⟨y,hy,rfl⟩:=List.mem_map.1 hx
      obtain ⟨c,hc,e⟩:=ht.2 y hy
      exact ⟨c,List.mem_append.2 (.inl hc),by rw [inhP_fst];exact e⟩
    · obtain ⟨j,m,_,_,rfl⟩:=addP_form _ _ _ _ _ hx
      exact ⟨k,by simp,rfl⟩
theorem fold_rn (ps:List Plc):∀ (l:List Nat) (S:List Nat) (t:List Sl),l.Nodup→(∀ c∈l,c ∉ S)→RN S t→RN (S++l) (l.foldl (fun (t:List Sl) (c:Nat)=>grwP (ovA ps) (c:Int) (msK ps c) t) t)
  | [],S,t,_,_,ht=>by rw [List.append_nil];exact ht
  | c::r,S,t,hn,hd,ht=>by
    rw [List.foldl_cons]
    rw [List.nodup_cons] at hn
    have:=fold_rn ps r (S++[c]) _ hn.2 (fun d hd2 h=>by
      rcases List.mem_append.1 h with h|h
      · exact hd d (List.mem_cons_of_mem _ hd2) h
      · rw [List.mem_singleton] at h
        subst h
        exact hn.1 hd2) (grw_rn (ovA ps) c (msK ps c) S (hd c (by simp)) t ht)
    rwa [List.append_assoc] at this
theorem ch_nodupV {ps:List Plc} (hi:WI ps) (r:Nat) (hr:r<ps.length):(chL (ps.map nd) r).Nodup:=by
  refine ch_ind hi.wo (P:=fun r=>(chL (ps.map nd) r).Nodup) (by rw [chL_zero];simp) ?_ r (by rw [List.length_map];exact hr)
  intro k hk h0 hl ih
  rw [chL_cons hi.wo hk h0,List.nodup_cons]
  refine ⟨fun h=>?_,ih⟩
  have:=ch_le hi.wo _ (by omega) k h
  omega
theorem slo_ok {ps:List Plc} (hi:WI ps) {c i:Int} (h:(sloR ps c i).2=0):∃ (k j:Nat) (q:Plc) (x:Sl),c=(k:Int)∧ps[k]?=some q∧ifcI ps c=false∧(sloR ps c i).1=(j:Int)∧(tabP ps k)[j]?=some x∧(isRt c i x=true∨isMt c i x=true):=by
  unfold sloR at h ⊢
  cases hm:methI ps c i with
  | none=>rw [hm] at h;cases h
  | some m =>
    rw [hm] at h
    simp only at h ⊢
    split at h
    · cases h
    · rename_i hc
      rw [if_neg hc]
      have h1:ifcI ps c=false:=by cases e:ifcI ps c with
        | false=>rfl
        | true=>exact absurd (.inl e) hc
      have h2:vrtB m.nm m.fl=true:=by cases e:vrtB m.nm m.fl with
        | true=>rfl
        | false=>exact absurd (.inr e) hc
      rcases plcI_cases ps c with ⟨e,_⟩|⟨k,q,rfl,hq,e⟩
      · rw [methI,e] at hm;simp at hm
      · have hm2:methP q i=some m:=by rw [methI,e] at hm;exact hm
        have hi0:0≤i:=by
          rw [methP] at hm2
          split at hm2
          · assumption
          · cases hm2
        obtain ⟨n,rfl⟩:∃ n:Nat,i=(n:Int):=⟨i.toNat,by omega⟩
        rw [methP,if_pos hi0,Int.toNat_natCast] at hm2
        obtain ⟨j,x,e1,e2,e3⟩:=slo_place hi hq hm2 h2
        exact ⟨k,j,q,x,rfl,hq,h1,by rw [Int.toNat_natCast];exact e1,e2,e3⟩
theorem slo_err {ps:List Plc} {c i:Int} (h:¬ (sloR ps c i).2=0):(sloR ps c i).1=0:=by
  unfold sloR at h ⊢
  cases hm:methI ps c i with
  | none=>rfl
  | some m =>
    rw [hm] at h
    simp only at h ⊢
    split
    · rfl
    · rename_i hc
      rw [if_neg hc] at h
      exact absurd rfl h
def selR (ps:List Plc) (r c i:Int):(Int×Int)×Int:=match methI ps c i with
  | none=>((0,0),3)
  | some _=>if vckE ps r=0 then
      (if extI ps r c=true then
        (if (sloR ps c i).2=0 then (match (tabP ps r.toNat)[(sloR ps c i).1.toNat]? with|some x=>(x.2,0)|none=>((0,0),0)) else ((0,0),(sloR ps c i).2))
        else ((0,0),6))
      else ((0,0),vckE ps r)
def selE (R:(Int×Int)×Int):Value:=.tuple #[.agg #[.int .i64 R.1.1,.int .i64 R.1.2],.int .i64 R.2]
theorem sel_c {b:Nat} {ps:List Plc} {W:World} (h:WAt b ps W) (hi:WI ps) (hU:UnqM ps) (r c i:Int):Calls Tryz.prog 53 #[.pointer (some ⟨b,0,none⟩),.int .i64 r,.agg #[.int .i64 c,.int .i64 i]] W fun e w'=>e=.returned (selE (selR ps r c i))∧Below W.heap.size W w':=by
  have hR:∀ w,Below W.heap.size W w→Calls Tryz.prog 122 #[.pointer (some ⟨b,0,none⟩),.agg #[.int .i64 c,.int .i64 i]] w fun e w'=>mthE (mth3 ps c i) e∧Below w.heap.size w w':=fun w hb=>vrd_c (h.below hb) hi c i
  have hC:∀ w,Below W.heap.size W w→Calls Tryz.prog 119 #[.pointer (some ⟨b,0,none⟩),.int .i64 r] w fun e w'=>e=.returned (.int .i64 (vckE ps r))∧Below w.heap.size w w':=fun w hb=>chk_c (h.below hb) r
  have hX:∀ w,Below W.heap.size W w→Calls Tryz.prog 57 #[.pointer (some ⟨b,0,none⟩),.int .i64 r,.int .i64 c] w fun e w'=>e=.returned (.bool (extI ps r c))∧Below w.heap.size w w':=fun w hb=>extends_c (h.below hb) hi r c
  have hS:∀ w,Below W.heap.size W w→Calls Tryz.prog 51 #[.pointer (some ⟨b,0,none⟩),.agg #[.int .i64 c,.int .i64 i]] w fun e w'=>e=.returned (.tuple #[.int .i64 (sloR ps c i).1,.int .i64 (sloR ps c i).2])∧Below w.heap.size w w':=fun w hb=>slo_c (h.below hb) hi hU c i
  rw [mth3] at hR
  cases hm:methI ps c i with
  | none =>
    rw [hm] at hR
    have e:selR ps r c i=((0,0),3):=by unfold selR;rw [hm]
    rw [e]
    exact sel_1 W b r c i 3 (by decide) hR
  | some m =>
    rw [hm] at hR
    by_cases hz:vckE ps r=0
    · rw [hz] at hC
      cases hx:extI ps r c with
      | false =>
        have e:selR ps r c i=((0,0),6):=by unfold selR;rw [hm];simp only;rw [if_pos hz,if_neg (by rw [hx];decide)]
        rw [e]
        rw [hx] at hX
        exact sel_3 W b r c i m hR hC hX
      | true =>
        rw [hx] at hX
        by_cases hs:(sloR ps c i).2=0
        · obtain ⟨k,j,q,x,rfl,hq,hif,e1,e2,_⟩:=slo_ok hi hs
          obtain ⟨n,qr,rfl,hqr⟩:=chk_zero hz
          have hn:=(List.getElem?_eq_some_iff.1 hqr).1
          have hin:=ch_closed hi hn (chL_self _ n) hx hif
          have hlen:=tab_len hi hn hin
          obtain ⟨y,hy⟩:∃ y,(tabP ps n)[j]?=some y:=⟨_,List.getElem?_eq_getElem (Nat.lt_of_lt_of_le (List.getElem?_eq_some_iff.1 e2).1 hlen)⟩
          have e:selR ps (n:Int) (k:Int) i=(y.2,0):=by
            unfold selR
            rw [hm]
            simp only
            rw [if_pos hz,if_pos hx,if_pos hs,e1,Int.toNat_natCast,Int.toNat_natCast,hy]
          rw [e]
          rw [e1,hs] at hS
          exact sel_5 W b (n:Int) (k:Int) i m (tabP ps n) j y hy hR hC hX hS (fun w hb=>table_c (h.below hb) hi hU n qr hqr)
        · have e:selR ps r c i=((0,0),(sloR ps c i).2):=by unfold selR;rw [hm];simp only;rw [if_pos hz,if_pos hx,if_neg hs]
          rw [e]
          rw [slo_err hs] at hS
          exact sel_4 W b r c i m (sloR ps c i).2 hs hR hC hX hS
    · have e:selR ps r c i=((0,0),vckE ps r):=by unfold selR;rw [hm];simp only;rw [if_neg hz]
      rw [e]
      exact sel_2 W b r c i m (vckE ps r) hz hR hC
theorem tab_rootIn {ps:List Plc} (hi:WI ps) {k:Nat} (hk:k<ps.length) {x:Sl} (hx:x∈tabP ps k):∃ c∈chL (ps.map nd) k,x.1.1=(c:Int):=by
  rw [tabP,tabL] at hx
  have:=fold_rn ps (chL (ps.map nd) k).reverse [] [] (List.pairwise_reverse.2 ((ch_nodupV hi k hk).imp fun h=>Ne.symm h)) (fun c _ h=>by cases h) ⟨by simp,fun x hx=>by cases hx⟩
  obtain ⟨c,hc,e⟩:=this.2 x hx
  exact ⟨c,List.mem_reverse.1 (by simpa using hc),e⟩
theorem root_own {ps:List Plc} (hi:WI ps) {k:Nat} (hk:k<ps.length) {x:Sl} (hx:x∈tabP ps k) (hr:x.1.1=(k:Int)):x.2=x.1:=by
  by_cases h0:k=0
  · subst h0
    rw [tabP,chL_zero] at hx
    have hx2:x∈grwP (ovA ps) (0:Int) (msK ps 0) []:=hx
    rw [grwP,List.map_nil,List.nil_append] at hx2
    obtain ⟨j,m,_,_,rfl⟩:=addP_form _ _ _ _ _ hx2
    rfl
  · have hsp:=hi.wo.spLt (by rw [List.length_map];exact hk) (show 0<k by omega)
    rw [tabP_cons hi hk (by omega),grwP] at hx
    rcases List.mem_append.1 hx with hx|hx
    · obtain ⟨y,hy,rfl⟩:=List.mem_map.1 hx
      rw [inhP_fst] at hr
      obtain ⟨c,hc,e⟩:=tab_rootIn hi (by omega) hy
      have:=ch_le hi.wo _ (by rw [List.length_map];omega) c hc
      omega
    · obtain ⟨j,m,_,_,rfl⟩:=addP_form _ _ _ _ _ hx
      rfl
theorem inhP_ov {ps:List Plc} {k:Nat} (hk:k<ps.length) {x:Sl} {m:HM} (hm:methI ps x.1.1 x.1.2=some m):inhP (ovA ps) (k:Int) x=if ovC ps m.nm m.ds x.1 k then (x.1,gK ps m.nm m.ds k) else x:=by
  have he:ovA ps x.1=(allK ps m.nm m.ds x.1).map (gK ps m.nm m.ds):=by rw [ovA,alvE,hm]
  rw [inhP,he]
  cases h:((allK ps m.nm m.ds x.1).map (gK ps m.nm m.ds)).find? (fun y=>y.1 == (k:Int)) with
  | some z =>
    obtain ⟨j,hj,rfl⟩:=List.mem_map.1 (List.mem_of_find?_eq_some h)
    have h1:=List.find?_some h
    have:j=k:=by
      simp [gK] at h1
      omega
    subst this
    rw [if_pos (List.mem_filter.1 hj).2]
  | none =>
    rw [List.find?_eq_none] at h
    have:ovC ps m.nm m.ds x.1 k=false:=by
      cases ho:ovC ps m.nm m.ds x.1 k with
      | false=>rfl
      | true=>exact absurd (h _ (List.mem_map.2 ⟨k,List.mem_filter.2 ⟨List.mem_range.2 hk,ho⟩,rfl⟩)) (by simp [gK])
    rw [this];rfl
theorem firD_con2 (ps:List Plc) (nm ds:ByteArray) (a:Int×Int) (k:Nat) (l:List Nat):firD ps nm ds a (k::l)=if ovC ps nm ds a k then (gK ps nm ds k,0) else firD ps nm ds a l:=by
  rw [firD,firD,List.find?_cons]
  cases ovC ps nm ds a k <;> rfl
theorem ovC_own {ps:List Plc} (hW:WI ps) (hU:UnqM ps) {k:Nat} {i:Int} {m:HM} (ha:methI ps (k:Int) i=some m) (hs:stB m.fl=false):ovC ps m.nm m.ds ((k:Int),i) k=true∧gK ps m.nm m.ds k=((k:Int),i):=by
  have hf:=hU.fnd ha rfl rfl
  have hg:gK ps m.nm m.ds k=((k:Int),i):=by rw [gK,hf]
  refine ⟨?_,hg⟩
  rw [ovC,Bool.and_eq_true]
  exact ⟨by rw [hf];rfl,by rw [hg];exact ovr_self hW hU ha hs⟩
def SlF (ps:List Plc) (k:Nat) (x:Sl):Prop:=∃ m,methI ps x.1.1 x.1.2=some m∧vrtB m.nm m.fl=true∧firD ps m.nm m.ds x.1 (chL (ps.map nd) k)=(x.2,0)
theorem add_first {ps:List Plc} (hW:WI ps) (hU:UnqM ps) {k:Nat} (hk:k<ps.length) {t:List Sl} {x:Sl} (hx:x∈addP (k:Int) t (msK ps k) 0):SlF ps k x:=by
  obtain ⟨j,m,h1,h2,rfl⟩:=addP_form _ _ _ _ _ hx
  have hq:ps[k]?=some ps[k]:=List.getElem?_eq_getElem hk
  rw [msK,hq] at h1
  rw [Nat.zero_add] at h2 ⊢
  rw [ownP,Bool.and_eq_true] at h2
  obtain ⟨o1,o2⟩:=ovC_own hW hU (methI_at hq h1) (vrt_st h2.1)
  refine ⟨m,methI_at hq h1,h2.1,?_⟩
  have hh:=ch_head (ns:=ps.map nd) k
  cases hc:chL (ps.map nd) k with
  | nil=>rw [hc] at hh;cases hh
  | cons y r =>
    rw [hc] at hh
    have:y=k:=by simpa using hh
    subst this
    rw [firD_con2,if_pos o1,o2]
theorem tab_first {ps:List Plc} (hW:WI ps) (hU:UnqM ps):∀ k,k<ps.length→∀ x∈tabP ps k,SlF ps k x:=by
  intro k hk
  refine ch_ind (P:=fun k=>∀ x∈tabP ps k,SlF ps k x) hW.wo ?_ ?_ k (by rw [List.length_map];exact hk)
  · intro x hx
    rw [tabP,chL_zero] at hx
    have hx2:x∈grwP (ovA ps) (0:Int) (msK ps 0) []:=hx
    rw [grwP,List.map_nil,List.nil_append] at hx2
    exact add_first hW hU (by omega) hx2
  · intro k hkl h0 hsp ih x hx
    have hk:k<ps.length:=by simpa using hkl
    rw [tabP_cons hW hk h0,grwP] at hx
    rcases List.mem_append.1 hx with hx|hx
    · obtain ⟨y,hy,rfl⟩:=List.mem_map.1 hx
      obtain ⟨m,hm,hv,hf⟩:=ih y hy
      refine ⟨m,by rw [inhP_fst];exact hm,hv,?_⟩
      rw [inhP_fst,chL_cons hW.wo hkl h0,firD_con2,inhP_ov hk hm]
      cases ovC ps m.nm m.ds y.1 k with
      | true=>rfl
      | false=>exact hf
    · exact add_first hW hU hk hx
theorem find_stop {p q:Nat→Bool} {c:Nat} (hp:p c=true) (hq:q c=true):∀ {l:List Nat},l.Pairwise (· > ·)→c∈l→(∀ x∈l,c<x→p x=q x)→l.find? p=l.find? q
  | [],_,h,_=>by cases h
  | y::r,hpw,hc,h=>by
    rw [List.find?_cons,List.find?_cons]
    by_cases hy:y=c
    · subst hy;rw [hp,hq]
    · rw [List.pairwise_cons] at hpw
      have hcr:c∈r:=(List.mem_cons.1 hc).resolve_left fun e=>hy e.symm
      have hlt:c<y:=hpw.1 c hcr
      rw [h y (by simp) hlt]
      cases q y with
      | true=>rfl
      | false=>exact find_stop hp hq hpw.2 hcr fun x hx=>h x (List.mem_cons_of_mem _ hx)
theorem fnd_congr {ps:List Plc} {nm ds nm2 ds2:ByteArray} (h1:nm.toList=nm2.toList) (h2:ds.toList=ds2.toList) (c:Int):fndI ps c nm ds=fndI ps c nm2 ds2:=by
  unfold fndI
  simp only [find_congr h1 h2]
theorem has5c {f:Int} (h1:hasI f 1=false) (h4:hasI f 4=false):hasI f 5=false:=by
  have e5:bits .and .i64 f 5=IntKind.wrap .i64 (((BitVec.ofInt 64 f).toNat &&& 5:Nat):Int):=rfl
  have e1:bits .and .i64 f 1=IntKind.wrap .i64 (((BitVec.ofInt 64 f).toNat &&& 1:Nat):Int):=rfl
  have e4:bits .and .i64 f 4=IntKind.wrap .i64 (((BitVec.ofInt 64 f).toNat &&& 4:Nat):Int):=rfl
  have h:(BitVec.ofInt 64 f).toNat &&& 5=((BitVec.ofInt 64 f).toNat &&& 1) ||| ((BitVec.ofInt 64 f).toNat &&& 4):=by
    rw [← Nat.and_or_distrib_left];rfl
  unfold hasI at *
  rw [e1] at h1
  rw [e4] at h4
  rw [e5,h]
  have b1:(BitVec.ofInt 64 f).toNat &&& 1≤1:=Nat.and_le_right
  have b4:(BitVec.ofInt 64 f).toNat &&& 4≤4:=Nat.and_le_right
  clear e1 e4 e5 h
  generalize (BitVec.ofInt 64 f).toNat &&& 1=a at *
  generalize (BitVec.ofInt 64 f).toNat &&& 4=b at *
  have ha:a=0:=by
    have:a=0∨a=1:=by omega
    rcases this with rfl|rfl
    · rfl
    · exact absurd h1 (by decide)
  have hb:b=0:=by
    have:b=0∨b=1∨b=2∨b=3∨b=4:=by omega
    rcases this with rfl|rfl|rfl|rfl|rfl
    · rfl
    all_goals exact absurd h4 (by decide)
  subst ha hb
  decide
theorem opn_open {fl:Int} (h:opnB fl=true):openI fl=1∨openI fl=4:=by
  have h5:hasI fl 5=true:=h
  rw [openI]
  cases h1:hasI fl 1 with
  | true=>simp
  | false =>
    cases h4:hasI fl 4 with
    | true=>simp
    | false=>exact absurd h5 (by rw [has5c h1 h4];simp)
theorem over_same {ps:List Plc} (hW:WI ps) (hU:UnqM ps) {c:Nat} {i:Int} {m mR:HM} {R:Int×Int} (hm:methI ps (c:Int) i=some m) (hv:vrtB m.nm m.fl=true) (ho:opnB m.fl=true) (hR:methI ps R.1 R.2=some mR) (hov:(ovrI ps ((c:Int),i) R).1=true) {r:Nat} (hr:r<ps.length) (hc:c∈chL (ps.map nd) r):firD ps mR.nm mR.ds R (chL (ps.map nd) r)=firD ps m.nm m.ds ((c:Int),i) (chL (ps.map nd) r):=by
  have hrl:r<(ps.map nd).length:=by rw [List.length_map];exact hr
  have hO:Ov ps R ((c:Int),i):=(ovr_iff hW hU hR hm).2.1 hov
  obtain ⟨n0,hn0⟩:=hO
  obtain ⟨m2,hm2,e1,e2,_,hext,_⟩:=ovN_facts hW hR n0 _ hn0
  have:m2=m:=by rw [hm] at hm2;cases hm2;rfl
  subst this
  have hO:Ov ps R ((c:Int),i):=⟨n0,hn0⟩
  have hRc:=extI_le hW hext
  have hst:=vrt_st hv
  have hgk:gK ps mR.nm mR.ds=gK ps m2.nm m2.ds:=by
    funext k;rw [gK,gK,fnd_congr e1.symm e2.symm]
  obtain ⟨o1,o2⟩:=ovC_own hW hU hm hst
  have hfind:(chL (ps.map nd) r).find? (ovC ps mR.nm mR.ds R)=(chL (ps.map nd) r).find? (ovC ps m2.nm m2.ds ((c:Int),i)):=by
    refine find_stop (c:=c) ?_ o1 (ch_desc hW.wo r hrl) hc ?_
    · rw [ovC_iff hW hU hR,hgk,o2];exact hO
    · intro x hx hlt
      have hxe:extI ps (x:Int) (c:Int)=true:=by
        have hcx:=ch_tail hW.wo r hrl x hx c hc (by omega)
        have hxl:=ch_in hW.wo r hrl x hx
        have hcl:=ch_in hW.wo r hrl c hc
        rw [List.length_map] at hxl hcl
        rw [extI_nat hxl hcl];exact (ext_iff _ _ _).2 (.inl hcx)
      rw [Bool.eq_iff_iff,ovC_iff hW hU hR,ovC_iff hW hU hm,hgk]
      constructor
      · rintro ⟨n,hn⟩
        have hgx:(gK ps m2.nm m2.ds x).1=(x:Int):=rfl
        cases n with
        | zero =>
          have:=congrArg Prod.fst hn.1
          rw [hgx] at this
          omega
        | succ n =>
          obtain ⟨y,hy,hp⟩:=hn
          have hself:Ov ps ((c:Int),i) ((c:Int),i):=⟨0,rfl,by rw [stI,hm];exact hst⟩
          refine hself.step ?_
          obtain ⟨my,hmy,n1,n2,_,_,_⟩:=ovN_facts hW hR n y hy
          rw [plI] at hp
          cases hg:methI ps (gK ps m2.nm m2.ds x).1 (gK ps m2.nm m2.ds x).2 with
          | none=>rw [hg] at hp;cases hp
          | some mg =>
            rw [hg,hmy] at hp
            simp only [plnB,Bool.and_eq_true,beq_iff_eq] at hp
            obtain ⟨⟨⟨⟨⟨⟨h1,h2⟩,h3⟩,h4⟩,h5⟩,h6⟩,h7⟩:=hp
            rw [plI,hg,hm]
            simp only [plnB,Bool.and_eq_true,beq_iff_eq]
            rw [hgx] at h5 ⊢
            rw [bloB,Bool.and_eq_true,Bool.and_eq_true] at h5
            refine ⟨⟨⟨⟨⟨⟨h1,?_⟩,?_⟩,?_⟩,?_⟩,h6⟩,?_⟩
            · rw [freB,hst,vrtB,Bool.and_eq_true] at *
              simpa using hv.2
            · rw [h3,n1,e1]
            · rw [h4,n2,e2]
            · rw [bloB,Bool.and_eq_true,Bool.and_eq_true]
              refine ⟨⟨?_,h5.1.2⟩,hxe⟩
              simp;omega
            · rw [reaB]
              rcases opn_open ho with h|h <;> rw [h] <;> simp
      · rintro ⟨n,hn⟩
        exact ovN_trans hO n _ hn
  rw [firD,firD,hfind,hgk]
theorem slo_place2 {ps:List Plc} (hi:WI ps) {k:Nat} {q:Plc} (hq:ps[k]?=some q) {i:Nat} {m:HM} (hm:q.c.ms[i]?=some m) (hv:vrtB m.nm m.fl=true):∃ (j:Nat) (x:Sl),sloP (tabP ps k) (k:Int) (i:Int)=(j:Int)∧(tabP ps k)[j]?=some x∧(x.1=((k:Int),(i:Int))∨(x.2=((k:Int),(i:Int))∧opnB m.fl=true)):=by
  rcases idxL_spec (isRt (k:Int) (i:Int)) (tabP ps k) 0 with ⟨h,hall⟩|⟨j,x,h1,h2,h3⟩
  · obtain ⟨x,hx,hx2⟩:=slot_there hi hq hm hv
    have hx3:isMt (k:Int) (i:Int) x=true:=hx2.resolve_left (by rw [hall x hx];simp)
    rcases idxL_spec (isMt (k:Int) (i:Int)) (tabP ps k) 0 with ⟨_,hall2⟩|⟨j,x,h1,h2,h3⟩
    · rw [hall2 x hx] at hx3;cases hx3
    · refine ⟨j,x,?_,h2,.inr ⟨?_,?_⟩⟩
      · rw [sloP,h,if_pos (by decide),h1,Nat.zero_add]
      · rw [isMt,Bool.and_eq_true,beq_iff_eq,beq_iff_eq] at h3;exact Prod.ext h3.1 h3.2
      · cases ho:opnB m.fl with
        | true=>rfl
        | false =>
          obtain ⟨l,hl⟩:=tabP_grw hi (List.getElem?_eq_some_iff.1 hq).1
          have hms:(msK ps k)[i]?=some m:=by rw [msK,hq];exact hm
          have h5:=addP_mem (k:Int) (l.map (inhP (ovA ps) (k:Int))) (msK ps k) 0 i m hms (by rw [ownP,hv,ho];rfl)
          have hin:(((k:Int),((0+i:Nat):Int)),((k:Int),((0+i:Nat):Int)))∈tabP ps k:=by rw [hl,grwP];exact List.mem_append_right _ h5
          have:=hall _ hin
          simp [isRt] at this
  · refine ⟨j,x,?_,h2,.inl ?_⟩
    · rw [sloP,if_neg (by rw [h1];omega),h1,Nat.zero_add]
    · rw [isRt,Bool.and_eq_true,beq_iff_eq,beq_iff_eq] at h3;exact Prod.ext h3.1 h3.2
theorem slot_first {ps:List Plc} (hW:WI ps) (hU:UnqM ps) {c:Nat} {q:Plc} (hq:ps[c]?=some q) {i:Nat} {m:HM} (hm:q.c.ms[i]?=some m) (hv:vrtB m.nm m.fl=true) {r:Nat} (hr:r<ps.length) (hc:c∈chL (ps.map nd) r):∃ (j:Nat) (x y:Sl),sloP (tabP ps c) (c:Int) (i:Int)=(j:Int)∧(tabP ps c)[j]?=some x∧(tabP ps r)[j]?=some y∧y.1=x.1∧firI ps (r:Int) ((c:Int),(i:Int))=(y.2,0):=by
  have hcl:=(List.getElem?_eq_some_iff.1 hq).1
  obtain ⟨j,x,h1,h2,h3⟩:=slo_place2 hW hq hm hv
  have hj:((tabP ps c).map Prod.fst)[j]?=some x.1:=by rw [List.getElem?_map,h2];rfl
  have hj2:((tabP ps r).map Prod.fst)[j]?=some x.1:=by
    obtain ⟨t,ht⟩:=tab_roots hW r hr c hc
    rw [← ht,List.getElem?_append_left (List.getElem?_eq_some_iff.1 hj).1]
    exact hj
  rw [List.getElem?_map] at hj2
  obtain ⟨y,hy,hyx⟩:=Option.map_eq_some_iff.1 hj2
  refine ⟨j,x,y,h1,h2,hy,hyx,?_⟩
  have hM:=methI_at hq hm
  obtain ⟨mR,hR,_,hf⟩:=tab_first hW hU r hr y (List.mem_of_getElem? hy)
  obtain ⟨q2,hq2⟩:∃ q,ps[r]?=some q:=⟨_,List.getElem?_eq_getElem hr⟩
  rw [fir_canon hW hU (a:=((c:Int),(i:Int))) hM hq2,← hf]
  rw [hyx] at hR ⊢
  rcases h3 with h3|⟨h3,ho⟩
  · rw [h3] at hR ⊢
    have:mR=m:=by rw [hM] at hR;cases hR;rfl
    rw [this]
  · exact (over_same hW hU hM hv ho hR (by rw [← h3];exact (tab_over hW hU hcl (List.mem_of_getElem? h2)).1) hr hc).symm
theorem slot_vrt {ps:List Plc} (hW:WI ps) (hU:UnqM ps) (hS:SndM ps) {k:Nat} (hk:k<ps.length) {x:Sl} (hx:x∈tabP ps k):∃ m,methI ps x.2.1 x.2.2=some m∧vrtB m.nm m.fl=true:=by
  obtain ⟨mR,hR,hv,hf⟩:=tab_first hW hU k hk x hx
  have ho:=(tab_over hW hU hk hx).1
  cases hm:methI ps x.2.1 x.2.2 with
  | none=>rw [ovrI,hm] at ho;cases ho
  | some m =>
    refine ⟨m,rfl,?_⟩
    obtain ⟨n,hn⟩:=(ovr_iff hW hU hR hm).2.1 ho
    cases n with
    | zero =>
      rw [hn.1,hR] at hm
      cases hm
      exact hv
    | succ n =>
      obtain ⟨y,_,hp⟩:=hn
      rw [plI,hm] at hp
      cases hy:methI ps y.1 y.2 with
      | none=>rw [hy] at hp;cases hp
      | some my =>
        rw [hy] at hp
        simp only [plnB,freB,Bool.and_eq_true,Bool.not_eq_true',beq_iff_eq,beq_eq_false_iff_ne] at hp
        obtain ⟨⟨⟨⟨⟨⟨h1,_⟩,_⟩,_⟩,_⟩,h6⟩,_⟩:=hp
        have h2:hasI m.fl 2=false:=by
          cases e:hasI m.fl 2 with
          | false=>rfl
          | true =>
            obtain ⟨a,n,hc⟩:=hS.meth hm
            exact absurd (priv_open hc e).1 h6
        have h10:hasI m.fl 10=false:=by rw [has10c,h2];exact h1.1
        rw [vrtB,Bool.and_eq_true]
        refine ⟨?_,by simpa using h1.2⟩
        rw [hasI] at h10
        simpa using h10
theorem ch_ifc {ps:List Plc} (hW:WI ps) {k:Nat} (hk:k<ps.length) (hi:ifcI ps (k:Int)=false) {c:Nat} (hc:c∈chL (ps.map nd) k):ifcI ps (c:Int)=false:=by
  by_cases e:c=k
  · rw [e];exact hi
  · have hkl:k<(ps.map nd).length:=by rw [List.length_map];exact hk
    have hcl:=ch_in hW.wo k hkl c hc
    rw [List.length_map] at hcl
    have:=ch_plain hW.wo k hkl c hc e (nd ps[c]) (by rw [List.getElem?_map,List.getElem?_eq_getElem hcl];rfl)
    rw [ifcI,plcI_nat,List.getElem?_eq_getElem hcl]
    exact this
theorem vck_ifc {ps:List Plc} {x:Int} (h:vckE ps x=0):ifcI ps x=false:=by
  cases e:ifcI ps x with
  | false=>rfl
  | true =>
    rw [vckE] at h
    split at h
    · cases h
    · rw [e] at h;cases h
theorem vck_yes {ps:List Plc} {k:Nat} (hk:k<ps.length) (h:ifcI ps (k:Int)=false):vckE ps (k:Int)=0:=by
  rw [vckE,plcI_nat,List.getElem?_eq_getElem hk,h]
  rfl
theorem firD_ov {ps:List Plc} {nm ds:ByteArray} {a z:Int×Int} {l:List Nat} (h:firD ps nm ds a l=(z,0)):(ovrI ps z a).1=true:=by
  rw [firD] at h
  split at h
  · rename_i j hj
    have:=List.find?_some hj
    rw [ovC,Bool.and_eq_true] at this
    injection h with h1 _
    rw [← h1]
    exact this.2
  · injection h with _ h2
    cases h2
theorem meth_at {ps:List Plc} {c i:Int} {m:HM} (h:methI ps c i=some m):∃ (k j:Nat) (q:Plc),c=(k:Int)∧i=(j:Int)∧ps[k]?=some q∧q.c.ms[j]?=some m:=by
  obtain ⟨k,q,h1,h2,_,h4⟩:=meth_plc h
  rw [methP] at h4
  split at h4
  · rename_i h0
    exact ⟨k,i.toNat,q,h1,by omega,h2,h4⟩
  · cases h4
theorem slo_vrt {ps:List Plc} {c i:Int} (h:(sloR ps c i).2=0):∃ m,methI ps c i=some m∧ifcI ps c=false∧vrtB m.nm m.fl=true∧sloR ps c i=(sloP (tabP ps c.toNat) c i,0):=by
  unfold sloR at h ⊢
  cases hm:methI ps c i with
  | none=>rw [hm] at h;cases h
  | some m =>
    rw [hm] at h
    simp only at h ⊢
    split at h
    · cases h
    · rename_i hc
      rw [if_neg hc]
      refine ⟨m,rfl,?_,?_,rfl⟩
      · cases e:ifcI ps c with
        | false=>rfl
        | true=>exact absurd (.inl e) hc
      · cases e:vrtB m.nm m.fl with
        | true=>rfl
        | false=>exact absurd (.inr e) hc
theorem slo_of {ps:List Plc} {c i:Int} {m:HM} (hm:methI ps c i=some m) (hi:ifcI ps c=false) (hv:vrtB m.nm m.fl=true):sloR ps c i=(sloP (tabP ps c.toNat) c i,0):=by
  unfold sloR
  rw [hm]
  simp only
  rw [if_neg]
  rintro (h|h)
  · rw [hi] at h;cases h
  · rw [hv] at h;cases h
theorem vown_facts {ps:List Plc} (hW:WI ps) (hU:UnqM ps) (hS:SndM ps) {c i:Int} (hs:(sloR ps c i).2=0):∃ (kc j:Nat) (x:Sl),c=(kc:Int)∧kc<ps.length∧(sloR ps c i).1=(j:Int)∧vckE ps c=0∧(bldT ps c)[j]?=some x∧x.2=(c,i)∧∀ r:Int,vckE ps r=0→extI ps r c=true→∃ y,(bldT ps r)[j]?=some y∧y.1=x.1∧firI ps r (c,i)=(y.2,0)∧ovrI ps y.2 (c,i)=(true,0)∧extI ps r y.2.1=true∧(∃ my,methI ps y.2.1 y.2.2=some my)∧∃ j2:Nat,sloR ps y.2.1 y.2.2=((j2:Int),0)∧j2<(bldT ps r).length:=by
  obtain ⟨m,hm,hic,hv,he⟩:=slo_vrt hs
  obtain ⟨kc,ic,q,rfl,rfl,hq,hmq⟩:=meth_at hm
  have hkc:=(List.getElem?_eq_some_iff.1 hq).1
  obtain ⟨j,x,h1,h2,h3⟩:=slo_place2 hW hq hmq hv
  have hvc:=vck_yes hkc hic
  rw [Int.toNat_natCast] at he
  have hx2:x.2=((kc:Int),(ic:Int)):=by
    rcases h3 with h3|h3
    · rw [root_own hW hkc (List.mem_of_getElem? h2) (by rw [h3]),h3]
    · exact h3.1
  refine ⟨kc,j,x,rfl,hkc,by rw [he];exact h1,hvc,by rw [bldT,if_pos hvc,Int.toNat_natCast];exact h2,hx2,?_⟩
  intro r hvr hex
  obtain ⟨kr,qr,rfl,hqr⟩:=chk_zero hvr
  have hkr:=(List.getElem?_eq_some_iff.1 hqr).1
  have hch:kc∈chL (ps.map nd) kr:=ch_closed hW hkr (chL_self _ _) hex hic
  obtain ⟨j',x',y,g1,g2,g3,g4,g5⟩:=slot_first hW hU hq hmq hv hkr hch
  have hj:j'=j:=by have:=g1.symm.trans h1;omega
  subst hj
  have hxx:x'=x:=by rw [h2] at g2;cases g2;rfl
  subst hxx
  have hT:bldT ps (kr:Int)=tabP ps kr:=by rw [bldT,if_pos hvr,Int.toNat_natCast]
  rw [hT]
  have hym:=List.mem_of_getElem? g3
  obtain ⟨my,hmy,hvy⟩:=slot_vrt hW hU hS hkr hym
  obtain ⟨_,cy,hcy,ecy⟩:=tab_over hW hU hkr hym
  have hiy:=ch_ifc hW hkr (vck_ifc hvr) hcy
  rw [← ecy] at hiy
  have hcyl:cy<ps.length:=by
    have:=ch_in hW.wo kr (by rw [List.length_map];exact hkr) cy hcy
    rwa [List.length_map] at this
  have hov:(ovrI ps y.2 ((kc:Int),(ic:Int))).1=true:=by
    rw [fir_canon hW hU (a:=((kc:Int),(ic:Int))) hm hqr] at g5
    exact firD_ov g5
  refine ⟨y,g3,g4,g5,Prod.ext hov (ovr_zero hov),?_,⟨my,hmy⟩,?_⟩
  · rw [ecy,extI_nat hkr hcyl]
    exact (ext_iff _ _ _).2 (.inl hcy)
  · obtain ⟨ky,iy,qy,e1,e2,hqy,hmqy⟩:=meth_at hmy
    obtain ⟨j2,x2,s1,s2,_⟩:=slo_place2 hW hqy hmqy hvy
    refine ⟨j2,?_,?_⟩
    · rw [slo_of hmy hiy hvy,e1,e2,Int.toNat_natCast,s1]
    · have hky:ky=cy:=by rw [e1] at ecy;omega
      subst hky
      exact Nat.lt_of_lt_of_le (List.getElem?_eq_some_iff.1 s2).1 (tab_len hW hkr hcy)
theorem sel_yes {ps:List Plc} (hW:WI ps) (hU:UnqM ps) (hS:SndM ps) {r c i:Int} (hs:(sloR ps c i).2=0) (hr:vckE ps r=0) (he:extI ps r c=true):selR ps r c i=firI ps r (c,i)∧(selR ps r c i).2=0:=by
  obtain ⟨m,hm,_⟩:=slo_vrt hs
  obtain ⟨kc,j,x,rfl,_,hj,_,_,_,hall⟩:=vown_facts hW hU hS hs
  obtain ⟨y,hy,_,hf,_⟩:=hall r hr he
  have h1:selR ps r (kc:Int) i=(y.2,0):=by
    unfold selR
    rw [hm]
    simp only [if_pos hr,if_pos he,if_pos hs,hj,Int.toNat_natCast]
    rw [bldT,if_pos hr] at hy
    rw [hy]
  rw [h1,hf]
  exact ⟨rfl,rfl⟩
theorem sel_no {ps:List Plc} {r c i:Int} {m:HM} (hm:methI ps c i=some m) (h:¬ ((sloR ps c i).2=0∧vckE ps r=0∧extI ps r c=true)):¬ (selR ps r c i).2=0:=by
  unfold selR
  rw [hm]
  simp only
  by_cases hr:vckE ps r=0
  · rw [if_pos hr]
    by_cases he:extI ps r c=true
    · rw [if_pos he]
      by_cases hs:(sloR ps c i).2=0
      · exact absurd ⟨hs,hr,he⟩ h
      · rw [if_neg hs];exact hs
    · rw [if_neg he];exact (by decide:¬ (6:Int)=0)
  · rw [if_neg hr];exact hr
theorem sidT_c (a1 a2:Int) (w:World):Calls Tryz.prog 134 #[.agg #[.int .i64 a1,.int .i64 a2],.agg #[.int .i64 a1,.int .i64 a2]] w fun e w'=>e=.returned (.bool true)∧Below w.heap.size w w':=by
  go_enter Tryz.func134,Tryz.ntmps134
  go_wp2
  all_goals go_ret
  all_goals exact ⟨retB (by simp),(by repeat (first|exact Below.refl _ _|refine Below.setCell ?_ (by simp;try omega) _|refine Below.alloc ?_ (by simp;try omega) _|refine Below.drew ?_))⟩
set_option maxHeartbeats 32000000 in
theorem slots_w (ps:List Plc) (W:World) (b:Nat) (r:Int) (N:Nat) (HNp:Hid (ps.length=N)) (hN:N≤1000000) (HW2:Hid (∀ w',Below W.heap.size W w'→WAt b ps w'))
    (HLn:Hid (∀ b w,WAt b ps w→Calls Tryz.prog 28 #[.pointer (some ⟨b,0,none⟩)] w fun e w'=>(e=.returned (.int .i64 (N:Int)))∧w'=w))
    (HCL:Hid (∀ (k:Nat) (q:Plc),ps[k]?=some q→∀ b w,WAt b ps w→Calls Tryz.prog 55 #[.pointer (some ⟨b,0,none⟩),.int .i64 (k:Int)] w fun e w'=>(∃ vi vm qm,e=.returned (.tuple #[.agg #[.string q.c.nm,.string q.c.su,vi,.int .i64 q.c.fl,.int .i64 q.c.ld,vm],.int .i64 0])∧OwnC w' w.heap.size vi q.c.ni q.c.xi vm qm∧qm.map Prod.fst=q.c.ms)∧Below w.heap.size w w'))
    (HKb:Hid (∀ (k:Nat) (q:Plc),ps[k]?=some q→q.c.ms.length≤1000000))
    (HSe:Hid (∀ (k i:Nat),∀ b w,WAt b ps w→Calls Tryz.prog 53 #[.pointer (some ⟨b,0,none⟩),.int .i64 r,.agg #[.int .i64 (k:Int),.int .i64 (i:Int)]] w fun e w'=>(e=.returned (.tuple #[.agg #[.int .i64 (selR ps r (k:Int) (i:Int)).1.1,.int .i64 (selR ps r (k:Int) (i:Int)).1.2],.int .i64 (selR ps r (k:Int) (i:Int)).2]))∧Below w.heap.size w w'))
    (HVi:Hid (∀ (k i:Nat),∀ b w,WAt b ps w→Calls Tryz.prog 38 #[.pointer (some ⟨b,0,none⟩),.int .i64 r,.agg #[.int .i64 (k:Int),.int .i64 (i:Int)]] w fun e w'=>(e=.returned (.tuple #[.agg #[.int .i64 (virI ps r ((k:Int),(i:Int))).1.1,.int .i64 (virI ps r ((k:Int),(i:Int))).1.2],.int .i64 (virI ps r ((k:Int),(i:Int))).2]))∧Below w.heap.size w w'))
    (HMe:Hid (∀ (a1 a2:Int) (y:HM),methI ps a1 a2=some y→∀ b w,WAt b ps w→Calls Tryz.prog 133 #[.pointer (some ⟨b,0,none⟩),.agg #[.int .i64 a1,.int .i64 a2]] w fun e w'=>(∃ sa sk so,e=.returned (.tuple #[.agg #[.string y.nm,.string y.ds,.int .i64 y.fl,.int .i64 y.lo,.int .i64 y.st,.slice sa sk so],.int .i64 0]))∧Below w.heap.size w w'))
    (HQ:Hid (∀ (k i:Nat) (q:Plc) (m:HM),ps[k]?=some q→q.c.ms[i]?=some m→∀ a,selR ps r (k:Int) (i:Int)=(a,0)→∃ y,methI ps a.1 a.2=some y∧(y.nm.toList == m.nm.toList)=true∧(y.ds.toList == m.ds.toList)=true∧virI ps r ((k:Int),(i:Int))=if bits .and .i64 y.fl 1024 != 0 then ((0,0),24) else (a,0))):Calls Tryz.prog 61 #[.pointer (some ⟨b,0,none⟩),.int .i64 r] W fun e w'=>e=.returned (.bool true)∧Below W.heap.size W w':=by
  have SI:Hid (∀ (a1 a2:Int) (w:World),Calls Tryz.prog 134 #[.agg #[.int .i64 a1,.int .i64 a2],.agg #[.int .i64 a1,.int .i64 a2]] w fun e w'=>e=.returned (.bool true)∧Below w.heap.size w w'):=sidT_c
  go_enter Tryz.func61,Tryz.ntmps61
  go_wp2
  go_loopw [5] (fun kv wr=>∃ (k:Nat),kv=.int .i64 k∧k≤N∧Hid (Below W.heap.size W wr)) (fun kv _=>N - (intOf kv).toNat)
  case atStart=>exact ⟨0,rfl,Nat.zero_le _,Below.refl _ _⟩
  case round =>
    obtain ⟨k,rfl,hk,BB⟩:=hrel
    by_cases hlk:k<N
    · have hkI:(k:Int)<(N:Int):=by omega
      obtain ⟨q,hq⟩:∃ q,ps[k]?=some q:=⟨_,List.getElem?_eq_getElem (by rw [HNp.out];exact hlk)⟩
      go_wp2_with (first
        | (go_at_call 28;refine (HLn.out _ _ (HW2.out _ (by repeat (first|refine Below.setCell ?_ (by simp;try omega) _|refine Below.alloc ?_ (by have:=BB.out.size;simp;try omega) _|refine Below.drew ?_|exact BB.out)))).mono ?_;rintro e w9 ⟨rfl,hw9⟩;rw [hw9];clear hw9 w9)
        | (go_at_call 55;refine (HCL.out k q hq _ _ (HW2.out _ (by repeat (first|refine Below.setCell ?_ (by simp;try omega) _|refine Below.alloc ?_ (by have:=BB.out.size;simp;try omega) _|refine Below.drew ?_|exact BB.out)))).mono ?_;rintro e w3 ⟨⟨vi,vm,qm,rfl,hoc,hqm⟩,hb⟩;obtain ⟨ia,ic,rfl⟩:=ownv hoc.ifs;obtain ⟨ma,mc,rfl⟩:=ownv hoc.ms;have OM:Hid (w3.ownsRow wr.heap.size 81 6 (.slice ma qm.length mc) qm.length (flatH qm)):=hoc.ms;have HQM:Hid (qm.map Prod.fst=q.c.ms):=hqm;have BB2:Below W.heap.size W w3:=bstep (by repeat (first|refine Below.setCell ?_ (by simp;try omega) _|refine Below.alloc ?_ (by have:=BB.out.size;simp;try omega) _|refine Below.drew ?_|exact BB.out)) hb;clear BB;have BB:Hid (Below W.heap.size W w3):=BB2;clear BB2;clear hb hoc hqm))
      obtain ⟨K,hK⟩:∃ K,qm.length=K:=⟨_,rfl⟩
      have HK:Hid (qm.length=K):=hK
      have hKb:K≤1000000:=by
        have h1:=congrArg List.length HQM.out
        have h2:=HKb.out k q hq
        rw [List.length_map,hK] at h1
        omega
      rw [hK] at OM ⊢
      obtain ⟨U,hU⟩:∃ U,U=w3.alloc (.cells #[.string q.c.nm,.string q.c.su,.slice ia q.c.ni ic,.int .i64 q.c.fl,.int .i64 q.c.ld,.slice ma K mc] 48):=⟨_,rfl⟩
      have BB2:Hid (Below W.heap.size W U):=by rw [hU];exact BB.out.alloc BB.out.size _
      have OMU:Hid (U.ownsRow wr.heap.size 81 6 (.slice ma K mc) K (flatH qm)):=by rw [hU];exact OM.out.alloc _
      have hUB:U.heap[w3.heap.size]?=some (.cells #[.string q.c.nm,.string q.c.su,.slice ia q.c.ni ic,.int .i64 q.c.fl,.int .i64 q.c.ld,.slice ma K mc] 48 (0,0)):=by rw [hU];exact halloc1 _ _
      obtain ⟨_,_,_,_,_,xU5,_,xL⟩:=rw6 hUB
      rw [← hU]
      clear hU hK OM BB hUB
      go_loopw [8] (fun kv wr=>∃ (i:Nat),kv=.int .i64 i∧i≤K∧Hid (Below W.heap.size W wr)∧Hid (Below U.heap.size U wr)) (fun kv _=>K - (intOf kv).toNat)
      case atStart=>exact ⟨0,rfl,Nat.zero_le _,BB2,Below.refl _ _⟩
      case round =>
        clear BB2
        obtain ⟨i,rfl,hi,BB,BU⟩:=hrel
        obtain ⟨wm,hwm⟩:∃ w,w=wr:=⟨_,rfl⟩
        subst hwm
        have x5:=(BU.out.cell (p:=⟨w3.heap.size,5,none⟩) xL).trans xU5
        by_cases hlt:i<K
        · have hiI:(i:Int)<(K:Int):=by omega
          obtain ⟨⟨m,um⟩,hm⟩:∃ m,qm[i]?=some m:=⟨_,List.getElem?_eq_getElem (by rw [HK.out];exact hlt)⟩
          have hmm:q.c.ms[i]?=some m:=by rw [← HQM.out,List.getElem?_map,hm];rfl
          obtain ⟨gm,cm,hform,_,gL,_⟩:=own_atS OMU.out (by omega)
          injection hform with hca _ hcc
          subst hca hcc
          have hcell:=fun j (hj:j<6)=>(OMU.out.cellAt (i * 6+j) (by have:=flatH_length qm;have:=HK.out;omega)).trans (flatH_at qm i (m,um) hm j hj)
          have cU0:=hcell 0 (by omega)
          have cU1:=hcell 1 (by omega)
          simp only [hmC,List.getElem?_cons_zero,List.getElem?_cons_succ,Nat.add_zero] at cU0 cU1
          have hQ:=HQ.out k i q m hq hmm
          have hS1:=HSe.out k i
          have hV1:=HVi.out k i
          clear HSe HVi HQ HCL HKb hcell hm hmm hq
          generalize selR ps r (k:Int) (i:Int)=S at *
          obtain ⟨⟨s1,s2⟩,s3⟩:=S
          obtain ⟨mn,md,mf,ml,ms,mk⟩:=m
          simp only at hQ hS1 cU0 cU1
          have HS1:Hid (∀ b w,WAt b ps w→Calls Tryz.prog 53 #[.pointer (some ⟨b,0,none⟩),.int .i64 r,.agg #[.int .i64 (k:Int),.int .i64 (i:Int)]] w fun e w'=>e=.returned (.tuple #[.agg #[.int .i64 s1,.int .i64 s2],.int .i64 s3])∧Below w.heap.size w w'):=hS1
          by_cases h3:s3=0
          · subst h3
            obtain ⟨y,hy,hn,hd,hvr⟩:=hQ (s1,s2) rfl
            have HM1:Hid (∀ b w,WAt b ps w→Calls Tryz.prog 133 #[.pointer (some ⟨b,0,none⟩),.agg #[.int .i64 s1,.int .i64 s2]] w fun e w'=>(∃ sa sk so,e=.returned (.tuple #[.agg #[.string y.nm,.string y.ds,.int .i64 y.fl,.int .i64 y.lo,.int .i64 y.st,.slice sa sk so],.int .i64 0]))∧Below w.heap.size w w'):=HMe.out s1 s2 y hy
            obtain ⟨yn,yd,yf,yl,ys,yk⟩:=y
            simp only at hn hd hvr HM1
            rw [hvr] at hV1
            clear hQ hy hvr HMe hS1
            by_cases hab:(bits .and .i64 yf 1024 != 0)=true
            · rw [if_pos hab] at hV1
              have HV1:Hid (∀ b w,WAt b ps w→Calls Tryz.prog 38 #[.pointer (some ⟨b,0,none⟩),.int .i64 r,.agg #[.int .i64 (k:Int),.int .i64 (i:Int)]] w fun e w'=>e=.returned (.tuple #[.agg #[.int .i64 0,.int .i64 0],.int .i64 24])∧Below w.heap.size w w'):=hV1
              clear hV1
              go_upto_region 13 with (first
                | (go_at_call 53;refine (HS1.out _ _ (HW2.out _ (by repeat (first|refine Below.setCell ?_ (by simp;try omega) _|refine Below.alloc ?_ (by have:=BB.out.size;simp;try omega) _|refine Below.drew ?_|exact BB.out)))).mono ?_;rintro e w4 ⟨rfl,hb⟩;have mmd:=kp2 (n:=wm.heap.size) hb;(try clear mmB mm0 mm1 mmf mmL mmN);obtain ⟨mmB,mm0,mm1,mmf,mmL,mmN⟩:=mmd;have BB2:Below W.heap.size W w4:=bstep (by repeat (first|refine Below.setCell ?_ (by simp;try omega) _|refine Below.alloc ?_ (by have:=BB.out.size;simp;try omega) _|refine Below.drew ?_|exact BB.out)) hb;clear BB;have BB:Hid (Below W.heap.size W w4):=BB2;clear BB2;have BU2:Below U.heap.size U w4:=bstep (by repeat (first|refine Below.setCell ?_ (by simp;try omega) _|refine Below.alloc ?_ (by have:=BU.out.size;simp;try omega) _|refine Below.drew ?_|exact BU.out)) hb;clear BU;have BU:Hid (Below U.heap.size U w4):=BU2;clear BU2;clear hb)
                | (go_at_call 38;refine (HV1.out _ _ (HW2.out _ (by repeat (first|refine Below.setCell ?_ (by simp;try omega) _|refine Below.alloc ?_ (by have:=BB.out.size;simp;try omega) _|refine Below.drew ?_|exact BB.out)))).mono ?_;rintro e w5 ⟨rfl,hb⟩;have mmd:=kp2 (n:=wm.heap.size) hb;(try clear mmB mm0 mm1 mmf mmL mmN);obtain ⟨mmB,mm0,mm1,mmf,mmL,mmN⟩:=mmd;have aad:=kp2 (n:=w4.heap.size) hb;(try clear aaB aa0 aa1 aaf aaL aaN);obtain ⟨aaB,aa0,aa1,aaf,aaL,aaN⟩:=aad;have BB2:Below W.heap.size W w5:=bstep (by repeat (first|refine Below.setCell ?_ (by simp;try omega) _|refine Below.alloc ?_ (by have:=BB.out.size;simp;try omega) _|refine Below.drew ?_|exact BB.out)) hb;clear BB;have BB:Hid (Below W.heap.size W w5):=BB2;clear BB2;have BU2:Below U.heap.size U w5:=bstep (by repeat (first|refine Below.setCell ?_ (by simp;try omega) _|refine Below.alloc ?_ (by have:=BU.out.size;simp;try omega) _|refine Below.drew ?_|exact BU.out)) hb;clear BU;have BU:Hid (Below U.heap.size U w5):=BU2;clear BU2;clear hb)
                | (go_at_call 133;refine (HM1.out _ _ (HW2.out _ (by repeat (first|refine Below.setCell ?_ (by simp;try omega) _|refine Below.alloc ?_ (by have:=BB.out.size;simp;try omega) _|refine Below.drew ?_|exact BB.out)))).mono ?_;rintro e w6 ⟨⟨sa,sk,so,rfl⟩,hb⟩;have aad:=kp2 (n:=w4.heap.size) hb;(try clear aaB aa0 aa1 aaf aaL aaN);obtain ⟨aaB,aa0,aa1,aaf,aaL,aaN⟩:=aad;have bbd:=kp2 (n:=w5.heap.size) hb;(try clear bbB bb0 bb1 bbf bbL bbN);obtain ⟨bbB,bb0,bb1,bbf,bbL,bbN⟩:=bbd;have BB2:Below W.heap.size W w6:=bstep (by repeat (first|refine Below.setCell ?_ (by simp;try omega) _|refine Below.alloc ?_ (by have:=BB.out.size;simp;try omega) _|refine Below.drew ?_|exact BB.out)) hb;clear BB;have BB:Hid (Below W.heap.size W w6):=BB2;clear BB2;have BU2:Below U.heap.size U w6:=bstep (by repeat (first|refine Below.setCell ?_ (by simp;try omega) _|refine Below.alloc ?_ (by have:=BU.out.size;simp;try omega) _|refine Below.drew ?_|exact BU.out)) hb;clear BU;have BU:Hid (Below U.heap.size U w6):=BU2;clear BU2;have y5:=(BU.out.cell (p:=⟨w3.heap.size,5,none⟩) xL).trans xU5;have c0:=(BU.out.cell (p:=⟨gm,i * 6,none⟩) gL).trans cU0;have c1:=(BU.out.cell (p:=⟨gm,i * 6+1,none⟩) gL).trans cU1;have xN:¬ w3.heap.size=w6.heap.size:=(by have:=BU.out.size;omega);have gN:¬ gm=w6.heap.size:=(by have:=BU.out.size;omega);have y5L:w3.heap.size<w6.heap.size:=(by have:=BU.out.size;omega);have gL6:gm<w6.heap.size:=(by have:=BU.out.size;omega);clear hb))
              go_region
              go_wp2
              go_roundw
              case rel=>exact ⟨i+1,by go_num,by omega,(by repeat (first|refine Below.setCell ?_ (by simp;try omega) _|refine Below.alloc ?_ (by have:=BB.out.size;simp;try omega) _|refine Below.drew ?_|exact BB.out)),(by repeat (first|refine Below.setCell ?_ (by simp;try omega) _|refine Below.alloc ?_ (by have:=BU.out.size;simp;try omega) _|refine Below.drew ?_|exact BU.out))⟩
              case measure=>simp [intOf];omega
            · rw [if_neg hab] at hV1
              have HV1:Hid (∀ b w,WAt b ps w→Calls Tryz.prog 38 #[.pointer (some ⟨b,0,none⟩),.int .i64 r,.agg #[.int .i64 (k:Int),.int .i64 (i:Int)]] w fun e w'=>e=.returned (.tuple #[.agg #[.int .i64 s1,.int .i64 s2],.int .i64 0])∧Below w.heap.size w w'):=hV1
              have hab2:(bits .and .i64 yf 1024 != 0)=false:=by simpa using hab
              clear hV1 hab
              go_upto_region 13 with (first
                | (go_at_call 53;refine (HS1.out _ _ (HW2.out _ (by repeat (first|refine Below.setCell ?_ (by simp;try omega) _|refine Below.alloc ?_ (by have:=BB.out.size;simp;try omega) _|refine Below.drew ?_|exact BB.out)))).mono ?_;rintro e w4 ⟨rfl,hb⟩;have mmd:=kp2 (n:=wm.heap.size) hb;(try clear mmB mm0 mm1 mmf mmL mmN);obtain ⟨mmB,mm0,mm1,mmf,mmL,mmN⟩:=mmd;have BB2:Below W.heap.size W w4:=bstep (by repeat (first|refine Below.setCell ?_ (by simp;try omega) _|refine Below.alloc ?_ (by have:=BB.out.size;simp;try omega) _|refine Below.drew ?_|exact BB.out)) hb;clear BB;have BB:Hid (Below W.heap.size W w4):=BB2;clear BB2;have BU2:Below U.heap.size U w4:=bstep (by repeat (first|refine Below.setCell ?_ (by simp;try omega) _|refine Below.alloc ?_ (by have:=BU.out.size;simp;try omega) _|refine Below.drew ?_|exact BU.out)) hb;clear BU;have BU:Hid (Below U.heap.size U w4):=BU2;clear BU2;clear hb)
                | (go_at_call 38;refine (HV1.out _ _ (HW2.out _ (by repeat (first|refine Below.setCell ?_ (by simp;try omega) _|refine Below.alloc ?_ (by have:=BB.out.size;simp;try omega) _|refine Below.drew ?_|exact BB.out)))).mono ?_;rintro e w5 ⟨rfl,hb⟩;have mmd:=kp2 (n:=wm.heap.size) hb;(try clear mmB mm0 mm1 mmf mmL mmN);obtain ⟨mmB,mm0,mm1,mmf,mmL,mmN⟩:=mmd;have aad:=kp2 (n:=w4.heap.size) hb;(try clear aaB aa0 aa1 aaf aaL aaN);obtain ⟨aaB,aa0,aa1,aaf,aaL,aaN⟩:=aad;have BB2:Below W.heap.size W w5:=bstep (by repeat (first|refine Below.setCell ?_ (by simp;try omega) _|refine Below.alloc ?_ (by have:=BB.out.size;simp;try omega) _|refine Below.drew ?_|exact BB.out)) hb;clear BB;have BB:Hid (Below W.heap.size W w5):=BB2;clear BB2;have BU2:Below U.heap.size U w5:=bstep (by repeat (first|refine Below.setCell ?_ (by simp;try omega) _|refine Below.alloc ?_ (by have:=BU.out.size;simp;try omega) _|refine Below.drew ?_|exact BU.out)) hb;clear BU;have BU:Hid (Below U.heap.size U w5):=BU2;clear BU2;clear hb)
                | (go_at_call 133;refine (HM1.out _ _ (HW2.out _ (by repeat (first|refine Below.setCell ?_ (by simp;try omega) _|refine Below.alloc ?_ (by have:=BB.out.size;simp;try omega) _|refine Below.drew ?_|exact BB.out)))).mono ?_;rintro e w6 ⟨⟨sa,sk,so,rfl⟩,hb⟩;have aad:=kp2 (n:=w4.heap.size) hb;(try clear aaB aa0 aa1 aaf aaL aaN);obtain ⟨aaB,aa0,aa1,aaf,aaL,aaN⟩:=aad;have bbd:=kp2 (n:=w5.heap.size) hb;(try clear bbB bb0 bb1 bbf bbL bbN);obtain ⟨bbB,bb0,bb1,bbf,bbL,bbN⟩:=bbd;have BB2:Below W.heap.size W w6:=bstep (by repeat (first|refine Below.setCell ?_ (by simp;try omega) _|refine Below.alloc ?_ (by have:=BB.out.size;simp;try omega) _|refine Below.drew ?_|exact BB.out)) hb;clear BB;have BB:Hid (Below W.heap.size W w6):=BB2;clear BB2;have BU2:Below U.heap.size U w6:=bstep (by repeat (first|refine Below.setCell ?_ (by simp;try omega) _|refine Below.alloc ?_ (by have:=BU.out.size;simp;try omega) _|refine Below.drew ?_|exact BU.out)) hb;clear BU;have BU:Hid (Below U.heap.size U w6):=BU2;clear BU2;have y5:=(BU.out.cell (p:=⟨w3.heap.size,5,none⟩) xL).trans xU5;have c0:=(BU.out.cell (p:=⟨gm,i * 6,none⟩) gL).trans cU0;have c1:=(BU.out.cell (p:=⟨gm,i * 6+1,none⟩) gL).trans cU1;have xN:¬ w3.heap.size=w6.heap.size:=(by have:=BU.out.size;omega);have gN:¬ gm=w6.heap.size:=(by have:=BU.out.size;omega);have y5L:w3.heap.size<w6.heap.size:=(by have:=BU.out.size;omega);have gL6:gm<w6.heap.size:=(by have:=BU.out.size;omega);clear hb))
              go_region
              go_wp2_with (first
                | (go_at_call 134;refine (SI.out _ _ _).mono ?_;rintro e w11 ⟨rfl,hb⟩;have BB2:Below W.heap.size W w11:=bstep (by repeat (first|refine Below.setCell ?_ (by simp;try omega) _|refine Below.alloc ?_ (by have:=BB.out.size;simp;try omega) _|refine Below.drew ?_|exact BB.out)) hb;clear BB;have BB:Hid (Below W.heap.size W w11):=BB2;clear BB2;have BU2:Below U.heap.size U w11:=bstep (by repeat (first|refine Below.setCell ?_ (by simp;try omega) _|refine Below.alloc ?_ (by have:=BU.out.size;simp;try omega) _|refine Below.drew ?_|exact BU.out)) hb;clear BU;have BU:Hid (Below U.heap.size U w11):=BU2;clear BU2;clear hb))
              go_roundw
              case rel=>exact ⟨i+1,by go_num,by omega,(by repeat (first|refine Below.setCell ?_ (by simp;try omega) _|refine Below.alloc ?_ (by have:=BB.out.size;simp;try omega) _|refine Below.drew ?_|exact BB.out)),(by repeat (first|refine Below.setCell ?_ (by simp;try omega) _|refine Below.alloc ?_ (by have:=BU.out.size;simp;try omega) _|refine Below.drew ?_|exact BU.out))⟩
              case measure=>simp [intOf];omega
          · have h3b:(s3 == 0)=false:=by simp [h3]
            generalize virI ps r ((k:Int),(i:Int))=S at *
            obtain ⟨⟨v1,v2⟩,v3⟩:=S
            simp only at hV1
            have HV1:Hid (∀ b w,WAt b ps w→Calls Tryz.prog 38 #[.pointer (some ⟨b,0,none⟩),.int .i64 r,.agg #[.int .i64 (k:Int),.int .i64 (i:Int)]] w fun e w'=>e=.returned (.tuple #[.agg #[.int .i64 v1,.int .i64 v2],.int .i64 v3])∧Below w.heap.size w w'):=hV1
            clear hQ hV1 HMe hS1
            go_wp2_with (first
              | (go_at_call 53;refine (HS1.out _ _ (HW2.out _ (by repeat (first|refine Below.setCell ?_ (by simp;try omega) _|refine Below.alloc ?_ (by have:=BB.out.size;simp;try omega) _|refine Below.drew ?_|exact BB.out)))).mono ?_;rintro e w4 ⟨rfl,hb⟩;have mmd:=kp2 (n:=wm.heap.size) hb;(try clear mmB mm0 mm1 mmf mmL mmN);obtain ⟨mmB,mm0,mm1,mmf,mmL,mmN⟩:=mmd;have BB2:Below W.heap.size W w4:=bstep (by repeat (first|refine Below.setCell ?_ (by simp;try omega) _|refine Below.alloc ?_ (by have:=BB.out.size;simp;try omega) _|refine Below.drew ?_|exact BB.out)) hb;clear BB;have BB:Hid (Below W.heap.size W w4):=BB2;clear BB2;have BU2:Below U.heap.size U w4:=bstep (by repeat (first|refine Below.setCell ?_ (by simp;try omega) _|refine Below.alloc ?_ (by have:=BU.out.size;simp;try omega) _|refine Below.drew ?_|exact BU.out)) hb;clear BU;have BU:Hid (Below U.heap.size U w4):=BU2;clear BU2;clear hb)
              | (go_at_call 38;refine (HV1.out _ _ (HW2.out _ (by repeat (first|refine Below.setCell ?_ (by simp;try omega) _|refine Below.alloc ?_ (by have:=BB.out.size;simp;try omega) _|refine Below.drew ?_|exact BB.out)))).mono ?_;rintro e w5 ⟨rfl,hb⟩;have mmd:=kp2 (n:=wm.heap.size) hb;(try clear mmB mm0 mm1 mmf mmL mmN);obtain ⟨mmB,mm0,mm1,mmf,mmL,mmN⟩:=mmd;have aad:=kp2 (n:=w4.heap.size) hb;(try clear aaB aa0 aa1 aaf aaL aaN);obtain ⟨aaB,aa0,aa1,aaf,aaL,aaN⟩:=aad;have BB2:Below W.heap.size W w5:=bstep (by repeat (first|refine Below.setCell ?_ (by simp;try omega) _|refine Below.alloc ?_ (by have:=BB.out.size;simp;try omega) _|refine Below.drew ?_|exact BB.out)) hb;clear BB;have BB:Hid (Below W.heap.size W w5):=BB2;clear BB2;have BU2:Below U.heap.size U w5:=bstep (by repeat (first|refine Below.setCell ?_ (by simp;try omega) _|refine Below.alloc ?_ (by have:=BU.out.size;simp;try omega) _|refine Below.drew ?_|exact BU.out)) hb;clear BU;have BU:Hid (Below U.heap.size U w5):=BU2;clear BU2;clear hb))
            go_roundw
            case rel=>exact ⟨i+1,by go_num,by omega,(by repeat (first|refine Below.setCell ?_ (by simp;try omega) _|refine Below.alloc ?_ (by have:=BB.out.size;simp;try omega) _|refine Below.drew ?_|exact BB.out)),(by repeat (first|refine Below.setCell ?_ (by simp;try omega) _|refine Below.alloc ?_ (by have:=BU.out.size;simp;try omega) _|refine Below.drew ?_|exact BU.out))⟩
            case measure=>simp [intOf];omega
        · have e:i=K:=by omega
          subst e
          go_wp2
          go_roundw
          case rel=>exact ⟨k+1,by go_num,by omega,BB⟩
          case measure=>simp [intOf];omega
    · have e:k=N:=by omega
      subst e
      go_wp2_with (first
        | (go_at_call 28;refine (HLn.out _ _ (HW2.out _ (by repeat (first|refine Below.setCell ?_ (by simp;try omega) _|refine Below.alloc ?_ (by have:=BB.out.size;simp;try omega) _|refine Below.drew ?_|exact BB.out)))).mono ?_;rintro e w9 ⟨rfl,hw9⟩;rw [hw9];clear hw9 w9))
      all_goals go_ret
      all_goals exact ⟨retB (by simp),BB.out⟩
theorem sel_virt {ps:List Plc} (hW:WI ps) (hU:UnqM ps) (hS:SndM ps) {r:Int} {k i:Nat} {q:Plc} {m:HM} (hq:ps[k]?=some q) (hm:q.c.ms[i]?=some m) {a:Int×Int} (h:selR ps r (k:Int) (i:Int)=(a,0)):∃ y,methI ps a.1 a.2=some y∧(y.nm.toList == m.nm.toList)=true∧(y.ds.toList == m.ds.toList)=true∧virI ps r ((k:Int),(i:Int))=if bits .and .i64 y.fl 1024 != 0 then ((0,0),24) else (a,0):=by
  have hM:=methI_at hq hm
  have hyes:(sloR ps (k:Int) (i:Int)).2=0∧vckE ps r=0∧extI ps r (k:Int)=true:=Classical.byContradiction fun hn=>sel_no hM hn (by rw [h])
  obtain ⟨hs,hr,he⟩:=hyes
  obtain ⟨m2,hm2,_,hv,_⟩:=slo_vrt hs
  rw [hM] at hm2
  cases hm2
  obtain ⟨e1,_⟩:=sel_yes hW hU hS hs hr he
  have hfi:firI ps r ((k:Int),(i:Int))=(a,0):=e1.symm.trans h
  obtain ⟨kr,qr,rfl,hqr⟩:=chk_zero hr
  have hfd:=hfi
  rw [fir_canon hW hU (a:=((k:Int),(i:Int))) hM hqr] at hfd
  have hov:=firD_ov hfd
  cases hy:methI ps a.1 a.2 with
  | none=>rw [ovrI,hy] at hov;cases hov
  | some y =>
    obtain ⟨n,hn⟩:=(ovr_iff hW hU (a:=((k:Int),(i:Int))) hM hy).2.1 hov
    obtain ⟨y2,hy2,n1,n2,_⟩:=ovN_facts hW (a:=((k:Int),(i:Int))) hM n a hn
    rw [hy] at hy2
    cases hy2
    refine ⟨y,rfl,by rw [n1];exact beq_self_eq_true _,by rw [n2];exact beq_self_eq_true _,?_⟩
    have hrf:rfrI ps (kr:Int) ((k:Int),(i:Int))=.ok m:=by
      have hc:crdI ps (kr:Int) ((k:Int),(i:Int))=.ok m:=by rw [crdI,plcI_nat,hqr];simp only [hM]
      rw [rfrI,hc]
      simp only [vck_ifc hr]
      rfl
    rw [virI,hrf]
    simp only
    have hst:=vrt_st hv
    rw [hst,hfi]
    simp only [Bool.false_eq_true,if_false,if_true]
    rw [unaI,hasS,hy]
    rfl
theorem slots_c {b:Nat} {ps:List Plc} {W:World} (h:WAt b ps W) (hW:WI ps) (hU:UnqM ps) (hS:SndM ps) (r:Int):Calls Tryz.prog 61 #[.pointer (some ⟨b,0,none⟩),.int .i64 r] W fun e w'=>e=.returned (.bool true)∧Below W.heap.size W w':=by
  refine slots_w ps W b r _ rfl (Nat.le_trans hW.hi (by decide)) (fun w' hb=>h.below hb) (fun b w hw=>len_c hw) (fun k q hq b w hw=>?_) (fun k q hq=>(hW.pb q (List.mem_of_getElem? hq)).ms) (fun k i b w hw=>sel_c hw hW hU _ _ _) (fun k i b w hw=>vir_c hw hW _ _ _) (fun a1 a2 y hy b w hw=>?_) (fun k i q m hq hm a ha=>sel_virt hW hU hS hq hm ha)
  · have:=class_c hw hW.pb (k:Int)
    rw [plcI_nat,hq] at this
    exact this
  · have:=mth_e hw hW.pb a1 a2
    rw [hy] at this
    exact this
end Go.Proofs.YtjlfnelihbdhjaaGreat
