import Derived.Test.YtfoldbhlmmmpeaaGreatLcQ
import Derived.Test.YtfoldbhlmmmpeaaGreatRsC
import Derived.IntWalk
namespace Go.Proofs.YtfoldbhlmmmpeaaGreat
open Go.RowKit Go.Maps
def UnqM (ps:List Plc):Prop:=∀ q∈ps,∀ (i:Nat) (m:HM),q.c.ms[i]?=some m→findH m.nm m.ds q.c.ms 0=(i:Int)
theorem find_map (nm ds:ByteArray):∀ (l:List Mth) (k:Nat),findH nm ds (l.map hmOf) k=findM nm ds l k
  | [],_=>rfl
  | m::r,k=>by
    rw [List.map_cons,findH,findM,find_map nm ds r (k+1)]
    rfl
theorem mths_find {iface:Bool} {all:List Mth}:∀ {l:List Mth} {k:Nat},mthsB iface all l k=true→∀ (i:Nat) (m:Mth),l[i]?=some m→findM m.nm m.ds all 0=((k+i:Nat):Int)
  | [],_,_,_,_,hm=>by simp at hm
  | x::r,k,h,i,m,hm=>by
    rw [mthsB,Bool.and_eq_true,Bool.and_eq_true,beq_iff_eq] at h
    cases i with
    | zero =>
      simp only [List.getElem?_cons_zero,Option.some.injEq] at hm
      subst hm
      exact h.1.2
    | succ i =>
      rw [List.getElem?_cons_succ] at hm
      have:=mths_find h.2 i m hm
      rw [this];congr 1;omega
theorem unqObj:(objMs.zipIdx.all fun p=>findH p.1.nm p.1.ds objMs 0 == (p.2:Int))=true:=by kernel_rfl
theorem unqM3:UnqM P3:=by
  intro q hq i m hm
  simp only [P3,List.mem_cons,List.not_mem_nil,or_false] at hq
  rcases hq with rfl|rfl|rfl
  · have:=List.all_eq_true.1 unqObj (m,i) (List.mem_zipIdx_iff_getElem?.2 hm)
    exact beq_iff_eq.1 this
  · simp [cloH] at hm
  · simp [serH] at hm
theorem unqM_wld (l:List Cls) (hl:∀ c∈l,ClsW c):UnqM (wld l):=by
  refine wld_ind unqM3 (fun ps c h _=>?_) l hl
  cases hd:defN ps c with
  | error e=>exact h
  | ok p =>
    obtain ⟨hB,_,_,s,l,_,_,rfl⟩:=def_ok hd
    intro q hq i m hm
    rcases List.mem_append.1 (show q∈ps++[_] from hq) with hq|hq
    · exact h q hq i m hm
    · rw [List.mem_singleton] at hq
      subst hq
      have hm2:(c.ms.map hmOf)[i]?=some m:=hm
      rw [List.getElem?_map] at hm2
      obtain ⟨m0,hm0,rfl⟩:=Option.map_eq_some_iff.1 hm2
      rw [clsB,Bool.and_eq_true] at hB
      have:=mths_find hB.2 i m0 hm0
      show findH m0.nm m0.ds (c.ms.map hmOf) 0=(i:Int)
      rw [find_map,this,Nat.zero_add]
theorem find_congr {nm ds nm2 ds2:ByteArray} (h1:nm.toList=nm2.toList) (h2:ds.toList=ds2.toList):∀ (l:List HM) (k:Nat),findH nm ds l k=findH nm2 ds2 l k
  | [],_=>rfl
  | m::r,k=>by rw [findH,findH,h1,h2,find_congr h1 h2 r (k+1)]
theorem UnqM.fnd {ps:List Plc} (h:UnqM ps) {c i:Int} {m:HM} (hm:methI ps c i=some m) {nm ds:ByteArray} (h1:m.nm.toList=nm.toList) (h2:m.ds.toList=ds.toList):fndI ps c nm ds=(i,0):=by
  obtain ⟨k,q,rfl,hq,hp,hm2⟩:=meth_plc hm
  rw [methP] at hm2
  split at hm2
  · rename_i hi
    have:=h q (List.mem_of_getElem? hq) i.toNat m hm2
    have e:findH nm ds q.c.ms 0=i:=by rw [← find_congr h1 h2,this];omega
    rw [fndI,hp]
    simp only [e]
    rw [if_neg (by omega)]
  · cases hm2
theorem extI_split {ps:List Plc} {a b:Int} (h:extI ps a b=true):∃ i j:Nat,a=(i:Int)∧b=(j:Int)∧i<ps.length∧j<ps.length∧extB (ps.map nd) i j=true:=by
  rw [extI,Bool.and_eq_true,Bool.and_eq_true] at h
  obtain ⟨⟨h1,h2⟩,h3⟩:=h
  rcases plcI_cases ps a with ⟨e,_⟩|⟨i,q,rfl,hq,_⟩
  · rw [e] at h1;cases h1
  · rcases plcI_cases ps b with ⟨e,_⟩|⟨j,r,rfl,hr,_⟩
    · rw [e] at h2;cases h2
    · exact ⟨i,j,rfl,rfl,(List.getElem?_eq_some_iff.1 hq).1,(List.getElem?_eq_some_iff.1 hr).1,h3⟩
theorem extI_tr {ps:List Plc} (hW:WI ps) {a b c:Int} (h1:extI ps a b=true) (h2:extI ps b c=true):extI ps a c=true:=by
  obtain ⟨i,j,rfl,rfl,hi,hj,e1⟩:=extI_split h1
  obtain ⟨j2,k,hjj,rfl,_,hk,e2⟩:=extI_split h2
  obtain rfl:j=j2:=by omega
  rw [extI_nat hi hk]
  exact ext_trans hW.wo (by simpa using hi) e1 e2
theorem extI_le {ps:List Plc} (hW:WI ps) {a b:Int} (h1:extI ps a b=true):b≤a:=by
  obtain ⟨i,j,rfl,rfl,hi,hj,e1⟩:=extI_split h1
  have:=ext_le hW.wo (by simpa using hi) e1
  omega
theorem extI_refl {ps:List Plc} {c i:Int} {m:HM} (h:methI ps c i=some m):extI ps c c=true:=by
  obtain ⟨k,q,rfl,hq,_,_⟩:=meth_plc h
  have:=(List.getElem?_eq_some_iff.1 hq).1
  rw [extI_nat this this]
  exact ext_self _ _
theorem pl_facts {ps:List Plc} {x y:Int×Int} (h:plI ps x y=true):∃ mx my,methI ps x.1 x.2=some mx∧methI ps y.1 y.2=some my∧mx.nm.toList=my.nm.toList∧mx.ds.toList=my.ds.toList∧stB mx.fl=false∧stB my.fl=false∧x.1≠y.1∧ifcI ps x.1=false∧extI ps x.1 y.1=true:=by
  rw [plI] at h
  cases hx:methI ps x.1 x.2 with
  | none=>rw [hx] at h;cases h
  | some mx =>
    cases hy:methI ps y.1 y.2 with
    | none=>rw [hx,hy] at h;cases h
    | some my =>
      rw [hx,hy] at h
      simp only [plnB,freB,bloB,Bool.and_eq_true,Bool.not_eq_true',beq_iff_eq,beq_eq_false_iff_ne] at h
      obtain ⟨⟨⟨⟨⟨⟨h1,h2⟩,h3⟩,h4⟩,h5⟩,_⟩,_⟩:=h
      exact ⟨mx,my,rfl,rfl,h3,h4,h1.1,h2.1,h5.1.1,h5.1.2,h5.2⟩
def OvN (ps:List Plc) (a:Int×Int):Nat→Int×Int→Prop
  | 0,x=>x=a∧stI ps a=false
  | n+1,x=>∃ y,OvN ps a n y∧plI ps x y=true
def Ov (ps:List Plc) (a x:Int×Int):Prop:=∃ n,OvN ps a n x
theorem Ov.step {ps:List Plc} {a x y:Int×Int} (h:Ov ps a y) (hp:plI ps x y=true):Ov ps a x:=by
  obtain ⟨n,hn⟩:=h
  exact ⟨n+1,y,hn,hp⟩
theorem ovN_facts {ps:List Plc} (hW:WI ps) {a:Int×Int} {ma:HM} (ha:methI ps a.1 a.2=some ma):∀ (n:Nat) (x:Int×Int),OvN ps a n x→∃ mx,methI ps x.1 x.2=some mx∧mx.nm.toList=ma.nm.toList∧mx.ds.toList=ma.ds.toList∧stB mx.fl=false∧extI ps x.1 a.1=true∧(x=a∨(ifcI ps x.1=false∧a.1<x.1))
  | 0,x,h=>by
    obtain ⟨rfl,hs⟩:=h
    refine ⟨ma,ha,rfl,rfl,?_,extI_refl ha,.inl rfl⟩
    rw [stI,ha] at hs
    exact hs
  | n+1,x,h=>by
    obtain ⟨y,hy,hp⟩:=h
    obtain ⟨my,hmy,e1,e2,_,e4,e5⟩:=ovN_facts hW ha n y hy
    obtain ⟨mx,my2,hmx,hmy2,f1,f2,f3,_,f5,f6,f7⟩:=pl_facts hp
    rw [hmy] at hmy2
    cases hmy2
    have hle:=extI_le hW f7
    have hle2:=extI_le hW e4
    exact ⟨mx,hmx,f1.trans e1,f2.trans e2,f3,extI_tr hW f7 e4,.inr ⟨f6,by omega⟩⟩
theorem gth_ov {ps:List Plc} {a:Int×Int}:∀ (l k:List (Int×Int)),(∀ y∈k,Ov ps a y)→∀ x∈l.foldl (gth1 ps a) k,Ov ps a x
  | [],_,hk,x,hx=>hk x hx
  | c::r,k,hk,x,hx=>by
    rw [List.foldl_cons] at hx
    refine gth_ov r _ (fun y hy=>?_) x hx
    rw [gth1] at hy
    split at hy
    · rename_i hc
      rcases List.mem_append.1 hy with hy|hy
      · exact hk y hy
      · rw [List.mem_singleton] at hy
        subst hy
        rw [Bool.or_eq_true] at hc
        rcases hc with hc|hc
        · rw [Bool.and_eq_true,eqI_iff] at hc
          obtain ⟨rfl,hs⟩:=hc
          exact ⟨0,rfl,by simpa using hs⟩
        · obtain ⟨z,hz,hp⟩:=List.any_eq_true.1 hc
          exact (hk z hz).step hp
    · exact hk y hy
theorem ch_desc {ns:List Nd} (h:WO ns) (a:Nat) (ha:a<ns.length):(chL ns a).Pairwise (· > ·):=by
  refine ch_ind h (P:=fun k=>(chL ns k).Pairwise (· > ·)) ?_ (fun k hk h0 hlt ih=>?_) a ha
  · rw [chL_zero];exact List.pairwise_singleton _ _
  · rw [chL_cons h hk h0]
    refine List.pairwise_cons.2 ⟨fun b hb=>?_,ih⟩
    have:=ch_le h _ (by omega) b hb
    omega
theorem nsk_mem {ps:List Plc} {nm ds:ByteArray} {a:Int}:∀ {l:List Nat} {c:Nat},c∈l→(fndI ps (c:Int) nm ds).2=0→(c:Int)≠a→((c:Int),(fndI ps (c:Int) nm ds).1)∈nskL ps nm ds a l
  | [],_,h,_,_=>by cases h
  | d::r,c,h,h1,h2=>by
    rw [nskL]
    rcases List.mem_cons.1 h with rfl|h
    · rw [if_pos ⟨h1,h2⟩];exact List.mem_cons_self
    · split
      · exact List.mem_cons_of_mem _ (nsk_mem h h1 h2)
      · exact nsk_mem h h1 h2
theorem take_lt {l:List Nat} (hl:l.Pairwise (· < ·)) {n d x:Nat} (hd:l[n]?=some d) (hx:x∈l) (hlt:x<d):x∈l.take n:=by
  obtain ⟨i,hi,rfl⟩:=List.getElem_of_mem hx
  obtain ⟨hn,rfl⟩:=List.getElem?_eq_some_iff.1 hd
  have hin:i<n:=by
    rcases Nat.lt_trichotomy i n with h|h|h
    · exact h
    · subst h;omega
    · have:=List.pairwise_iff_getElem.1 hl n i hn hi h;omega
  exact List.mem_take_iff_getElem.2 ⟨i,by omega,rfl⟩
theorem gth_all {ps:List Plc} (hW:WI ps) (hU:UnqM ps) {a:Int×Int} {ma:HM} (ha:methI ps a.1 a.2=some ma) {ck:Nat} (hck:ck<ps.length):∀ n:Nat,∀ x∈askL ps ma a ((chL (ps.map nd) ck).reverse.take n),Ov ps a x→x∈gthL ps a (askL ps ma a ((chL (ps.map nd) ck).reverse.take n)):=by
  have hckl:ck<(ps.map nd).length:=by simpa using hck
  have hasc:(chL (ps.map nd) ck).reverse.Pairwise (· < ·):=by
    rw [List.pairwise_reverse]
    exact ch_desc hW.wo ck hckl
  intro n
  induction n with
  | zero =>
    intro x hx ho
    rw [List.take_zero,askL,nskL,List.mem_singleton] at hx
    subst hx
    obtain ⟨n,hn⟩:=ho
    obtain ⟨mx,hmx,_,_,hs,_⟩:=ovN_facts hW ha n _ hn
    have hst:stI ps x=false:=by rw [stI,hmx];exact hs
    rw [List.take_zero,askL,nskL,gthL,List.foldl_cons,List.foldl_nil,gth1,hst,eqI_iff.2 rfl]
    exact List.mem_singleton.2 rfl
  | succ n ih =>
    intro x hx ho
    by_cases hn:n<(chL (ps.map nd) ck).reverse.length
    · obtain ⟨d,hd⟩:∃ d,(chL (ps.map nd) ck).reverse[n]?=some d:=⟨_,List.getElem?_eq_getElem hn⟩
      have hst:=nskL_take (ps:=ps) (nm:=ma.nm) (ds:=ma.ds) (a:=a.1) hd
      have hask:askL ps ma a ((chL (ps.map nd) ck).reverse.take (n+1))=askL ps ma a ((chL (ps.map nd) ck).reverse.take n)++(if (fndI ps (d:Int) ma.nm ma.ds).2=0∧(d:Int)≠a.1 then [((d:Int),(fndI ps (d:Int) ma.nm ma.ds).1)] else []):=by rw [askL,hst,askL,List.cons_append]
      rw [hask] at hx ⊢
      by_cases hc:(fndI ps (d:Int) ma.nm ma.ds).2=0∧(d:Int)≠a.1
      · rw [if_pos hc] at hx ⊢
        rw [gthL_snoc,gth1]
        rcases List.mem_append.1 hx with hx|hx
        · have:=ih x hx ho
          split
          · exact List.mem_append_left _ this
          · exact this
        · rw [List.mem_singleton] at hx
          subst hx
          obtain ⟨k,hk⟩:=ho
          cases k with
          | zero=>exact absurd (congrArg Prod.fst hk.1) hc.2
          | succ k =>
            obtain ⟨y,hy,hp⟩:=hk
            have hyk:y∈gthL ps a (askL ps ma a ((chL (ps.map nd) ck).reverse.take n)):=by
              refine ih y ?_ ⟨k,hy⟩
              obtain ⟨my,hmy,e1,e2,_,_,e5⟩:=ovN_facts hW ha k y hy
              rcases e5 with rfl|⟨hif,hlt⟩
              · rw [askL];exact List.mem_cons_self
              · obtain ⟨_,_,_,_,_,_,_,_,hne,_,hex⟩:=pl_facts hp
                obtain ⟨i,j,hi,hj,hil,hjl,he⟩:=extI_split hex
                obtain rfl:d=i:=by simp only at hi;omega
                have hdc:d∈chL (ps.map nd) ck:=List.mem_reverse.1 (List.mem_of_getElem? hd)
                have hjd:j∈chL (ps.map nd) d:=by
                  rcases (ext_iff _ _ _).1 he with h|h
                  · exact h
                  · exfalso
                    obtain ⟨_,_,p,hp1,hp2,_⟩:=cl_facts hW.wo h
                    rw [hj,ifcI,plcI_nat] at hif
                    rw [List.getElem?_map] at hp1
                    obtain ⟨q,hq,rfl⟩:=Option.map_eq_some_iff.1 hp1
                    rw [hq] at hif
                    have:(nd q).i=false:=hif
                    rw [this] at hp2
                    cases hp2
                have hjc:j∈chL (ps.map nd) ck:=ch_trans hW.wo ck hckl d hdc j hjd
                have hjlt:j<d:=by
                  have h1:=ch_le hW.wo d (by have:=ch_le hW.wo ck hckl d hdc;omega) j hjd
                  have h2:j≠d:=fun e=>hne (by rw [hj,e])
                  omega
                have hf:=hU.fnd hmy e1 e2
                have hyy:y=((j:Int),(fndI ps (j:Int) ma.nm ma.ds).1):=by
                  rw [hj] at hf
                  rw [hf]
                  exact Prod.ext hj rfl
                rw [askL,hyy]
                refine List.mem_cons_of_mem _ (nsk_mem (take_lt hasc hd (List.mem_reverse.2 hjc) hjlt) ?_ (by omega))
                rw [hj] at hf
                rw [hf]
            rw [if_pos (by rw [Bool.or_eq_true];exact .inr (List.any_eq_true.2 ⟨y,hyk,hp⟩))]
            exact List.mem_append_right _ (List.mem_singleton.2 rfl)
      · rw [if_neg hc,List.append_nil] at hx ⊢
        exact ih x hx ho
    · have e1:(chL (ps.map nd) ck).reverse.take (n+1)=(chL (ps.map nd) ck).reverse.take n:=by rw [List.take_of_length_le (by omega),List.take_of_length_le (by omega)]
      rw [e1] at hx ⊢
      exact ih x hx ho
theorem ovr_iff {ps:List Plc} (hW:WI ps) (hU:UnqM ps) {a c:Int×Int} {ma mc:HM} (ha:methI ps a.1 a.2=some ma) (hc:methI ps c.1 c.2=some mc):(ovrI ps c a).2=0∧((ovrI ps c a).1=true↔Ov ps a c):=by
  obtain ⟨ck,q,hck,hq,_,_⟩:=meth_plc hc
  have hlt:=(List.getElem?_eq_some_iff.1 hq).1
  have e:ovrI ps c a=((gthL ps a (askL ps ma a (chL (ps.map nd) ck).reverse)).any (eqI c),0):=by
    rw [ovrI,hc,ha]
    simp only [hck,Int.toNat_natCast]
  rw [e]
  refine ⟨rfl,?_⟩
  constructor
  · intro h
    obtain ⟨x,hx,he⟩:=List.any_eq_true.1 h
    rw [eqI_iff] at he
    subst he
    exact gth_ov _ [] (fun y hy=>by cases hy) c hx
  · intro h
    refine List.any_eq_true.2 ⟨c,?_,eqI_iff.2 rfl⟩
    have hall:=gth_all hW hU ha hlt (chL (ps.map nd) ck).reverse.length c
    rw [List.take_length] at hall
    refine hall ?_ h
    obtain ⟨n,hn⟩:=h
    obtain ⟨mx,hmx,e1,e2,_,_,e5⟩:=ovN_facts hW ha n c hn
    rcases e5 with rfl|⟨_,hlt2⟩
    · rw [askL];exact List.mem_cons_self
    · have hf:=hU.fnd hmx e1 e2
      rw [hck] at hf
      have hcc:c=((ck:Int),(fndI ps (ck:Int) ma.nm ma.ds).1):=by rw [hf];exact Prod.ext hck rfl
      rw [askL,hcc]
      refine List.mem_cons_of_mem _ (nsk_mem (List.mem_reverse.2 (chL_self _ _)) (by rw [hf]) (by omega))
theorem has1032 (f:Int):hasI f 1032=(hasI f 8||hasI f 1024):=by
  have ew:∀ n:Nat,n≤1032→IntKind.wrap .i64 ((n:Nat):Int)=(n:Int):=fun n hn=>by
    rw [IntKind.wrap_i64]
    have h0:(0:Int)≤(n:Int):=Int.natCast_nonneg n
    have h1:(n:Int)≤1032:=Int.ofNat_le.2 hn
    omega
  have e0:bits .and .i64 f 1032=IntKind.wrap .i64 (((BitVec.ofInt 64 f).toNat &&& 1032:Nat):Int):=rfl
  have e1:bits .and .i64 f 8=IntKind.wrap .i64 (((BitVec.ofInt 64 f).toNat &&& 8:Nat):Int):=rfl
  have e2:bits .and .i64 f 1024=IntKind.wrap .i64 (((BitVec.ofInt 64 f).toNat &&& 1024:Nat):Int):=rfl
  have h:(BitVec.ofInt 64 f).toNat &&& 1032=((BitVec.ofInt 64 f).toNat &&& 8) ||| ((BitVec.ofInt 64 f).toNat &&& 1024):=by
    rw [← Nat.and_or_distrib_left];rfl
  unfold hasI
  rw [e0,e1,e2,ew _ Nat.and_le_right,ew _ (Nat.le_trans Nat.and_le_right (by decide)),ew _ (Nat.le_trans Nat.and_le_right (by decide)),h]
  generalize (BitVec.ofInt 64 f).toNat &&& 8=a
  generalize (BitVec.ofInt 64 f).toNat &&& 1024=b
  by_cases ha:a=0
  · subst ha
    simp
  · have:¬ (a ||| b)=0:=fun e=>ha (Nat.or_eq_zero_iff.1 e).1
    have h1:(((a ||| b:Nat):Int) != 0)=true:=by simp;omega
    have h2:((a:Int) != 0)=true:=by simp;omega
    rw [h1,h2];rfl
def SndI (ps:List Plc):Prop:=∀ q∈ps,∀ m∈q.c.ms,∃ n,chkM m.fl (ifB q.c.fl) n=0
theorem sndI3:SndI P3:=by
  intro q hq m hm
  simp only [P3,List.mem_cons,List.not_mem_nil,or_false] at hq
  rcases hq with rfl|rfl|rfl
  · simp only [objH,objMs,List.mem_cons,List.not_mem_nil,or_false] at hm
    rcases hm with rfl|rfl|rfl <;> exact ⟨false,by decide⟩
  · simp only [cloH,List.not_mem_nil] at hm
  · simp only [serH,List.not_mem_nil] at hm
theorem sndI_wld (l:List Cls) (hl:∀ c∈l,ClsW c):SndI (wld l):=by
  refine wld_ind sndI3 (fun ps c h _=>?_) l hl
  cases hd:defN ps c with
  | error e=>exact h
  | ok p =>
    obtain ⟨hB,_,_,s,l,_,_,rfl⟩:=def_ok hd
    intro q hq m hm
    rcases List.mem_append.1 (show q∈ps++[_] from hq) with hq|hq
    · exact h q hq m hm
    · rw [List.mem_singleton] at hq
      subst hq
      obtain ⟨m0,hm0,rfl⟩:=List.mem_map.1 (show m∈c.ms.map hmOf from hm)
      rw [clsB,Bool.and_eq_true] at hB
      have hmb:=mths_eachp hB.2 m0 hm0
      simp only [mthB,Bool.and_eq_true,beq_iff_eq] at hmb
      exact ⟨_,hmb.1.1.1.2⟩
theorem SndI.pub {ps:List Plc} (h:SndI ps) {c i:Int} {m:HM} (hm:methI ps c i=some m) (hi:ifcI ps c=true) (h2:hasI m.fl 2=false):hasI m.fl 1=true:=by
  obtain ⟨k,q,_,hq,hp,h4⟩:=meth_plc hm
  rw [ifcI,hp] at hi
  have hmem:m∈q.c.ms:=by
    rw [methP] at h4
    split at h4
    · exact List.mem_of_getElem? h4
    · cases h4
  obtain ⟨n,hc⟩:=h q (List.mem_of_getElem? hq) m hmem
  have hi2:ifB q.c.fl=true:=hi
  rw [hi2,chkM] at hc
  cases e4:hasI m.fl 4 with
  | true=>simp [e4] at hc
  | false =>
    cases e1:hasI m.fl 1 with
    | true=>rfl
    | false =>
      have hv:visN m.fl=0:=by simp [visN,e1,e4,h2]
      simp [hv] at hc
theorem one_abs {ps:List Plc} {l:List (Int×Int)} {m:Int×Int} (h:oneV ps l=(m,0)):hasS ps m.1 m.2 1024=false:=by
  have hm:m∈oneL ps l:=by
    rw [oneV] at h
    split at h
    · simp at h
    · rename_i x hx
      simp only [Prod.mk.injEq,and_true] at h
      rw [hx,← h]
      exact List.mem_singleton.2 rfl
    · simp at h
  rw [oneL,List.mem_filter] at hm
  simpa using hm.2
theorem chain_ext {ps:List Plc} {r k:Nat} (hr:r<ps.length) (hW:WI ps) (hk:k∈chL (ps.map nd) r):extI ps (r:Int) (k:Int)=true:=by
  have h1:=ch_le hW.wo r (by simpa using hr) k hk
  rw [extI_nat hr (by omega)]
  exact (ext_iff _ _ _).2 (.inl hk)
theorem on_facts {ps:List Plc} (hW:WI ps) {r:Nat} {q:Plc} (hr:ps[r]?=some q) {nm ds:ByteArray} {a:Int×Int} (h:onI ps (r:Int) nm ds=(a,0)):∃ y,methI ps a.1 a.2=some y∧y.nm.toList=nm.toList∧y.ds.toList=ds.toList∧hasI y.fl 10=false∧hasI y.fl 1024=false∧extI ps (r:Int) a.1=true∧ifcI ps a.1=true:=by
  rw [onI,plcI_nat,hr] at h
  obtain ⟨_,h2,h3,y,h4,h5,h6,h7⟩:=cand_facts hW hr (one_mem h)
  have:=one_abs h
  rw [hasS,h4] at this
  exact ⟨y,h4,h5,h6,h7,this,h3,h2⟩
theorem una_facts {ps:List Plc} {m a:Int×Int} (h:unaI ps m=(a,0)):a=m∧hasS ps a.1 a.2 1024=false:=by
  rw [unaI] at h
  split at h
  · simp at h
  · rename_i hh
    simp only [Prod.mk.injEq,and_true] at h
    subst h
    exact ⟨rfl,by simpa using hh⟩
theorem rfr_ok {ps:List Plc} {r:Int} {m:Int×Int} {x y:HM} (hx:methI ps m.1 m.2=some x) (h:rfrI ps r m=.ok y):y=x∧∃ (k:Nat) (q:Plc),r=(k:Int)∧ps[k]?=some q:=by
  rw [rfrI] at h
  split at h
  · rename_i z hz
    split at h
    · cases h
    · cases h
      rw [crdI,hx] at hz
      rcases plcI_cases ps r with ⟨e,_⟩|⟨k,q,rfl,hq,e⟩
      · rw [e] at hz;cases hz
      · rw [e] at hz;cases hz;exact ⟨rfl,k,q,rfl,hq⟩
  · cases h
theorem vir_facts {ps:List Plc} (hW:WI ps) (hU:UnqM ps) {r:Int} {m a:Int×Int} {x:HM} (hx:methI ps m.1 m.2=some x) (h:virI ps r m=(a,0)):∃ y,methI ps a.1 a.2=some y∧y.nm.toList=x.nm.toList∧y.ds.toList=x.ds.toList∧hasI y.fl 1032=false∧extI ps r a.1=true∧(ovrI ps a m).2=0∧((ovrI ps a m).1=true∨ifcI ps a.1=true):=by
  rw [virI] at h
  cases hD:rfrI ps r m with
  | error e =>
    rw [hD] at h
    simp only [Prod.mk.injEq] at h
    obtain ⟨_,rfl⟩:=h
    rcases rfr_err hD with h|h <;> cases h
  | ok y =>
    obtain ⟨rfl,k,q,rfl,hq⟩:=rfr_ok hx hD
    rw [hD] at h
    simp only at h
    have hlt:=(List.getElem?_eq_some_iff.1 hq).1
    split at h
    · simp at h
    · split at h
      · rename_i h0
        obtain ⟨e,hab⟩:=una_facts h
        have hfi:firI ps (k:Int) m=(a,0):=by rw [e];exact Prod.ext rfl h0
        rw [firI_eq hx rfl hq] at hfi
        cases hg:(gthL ps m (askL ps y m (chL (ps.map nd) k).reverse)).getLast? with
        | none=>rw [lstI,hg] at hfi;simp at hfi
        | some z =>
          rw [lstI_last hg] at hfi
          split at hfi
          · rename_i hcon
            simp only [Prod.mk.injEq,and_true] at hfi
            subst hfi
            have hov:Ov ps m z:=gth_ov _ [] (fun y hy=>by cases hy) z (List.mem_of_getLast? hg)
            have hov2:=hov
            obtain ⟨n,hn⟩:=hov
            obtain ⟨mz,hmz,e1,e2,e3,_,_⟩:=ovN_facts hW hx n z hn
            rw [hasS,hmz] at hab
            rw [List.contains_iff_mem,List.mem_map] at hcon
            obtain ⟨kz,hkz,ekz⟩:=hcon
            obtain ⟨o1,o2⟩:=ovr_iff hW hU hx hmz
            refine ⟨mz,hmz,e1,e2,?_,by rw [← ekz];exact chain_ext hlt hW hkz,o1,.inl (o2.2 hov2)⟩
            rw [has1032]
            have e3:hasI mz.fl 8=false:=e3
            have hab:hasI mz.fl 1024=false:=hab
            rw [e3,hab];rfl
          · simp at hfi
      · obtain ⟨z,h1,h2,h3,h4,h5,h6,h7⟩:=on_facts hW hq h
        refine ⟨z,h1,h2,h3,?_,h6,(ovr_iff hW hU hx h1).1,.inr h7⟩
        rw [has10c,Bool.or_eq_false_iff] at h4
        rw [has1032,h4.2,h5];rfl
theorem upp_facts {ps:List Plc} {nm ds:ByteArray}:∀ {l:List Nat} {b:Int×Int},uppI ps nm ds l=(b,true)→∃ i∈l,b.1=(i:Int)∧FndF ps nm ds b∧hasS ps b.1 b.2 8=false
  | [],b,h=>by simp [uppI] at h
  | i::r,b,h=>by
    rw [uppI] at h
    split at h
    · rename_i hh
      simp only [Prod.mk.injEq,and_true] at h
      subst h
      exact ⟨i,List.mem_cons_self,rfl,(fnd_facts hh.1).1,hh.2⟩
    · obtain ⟨j,hj,h2⟩:=upp_facts h
      exact ⟨j,List.mem_cons_of_mem _ hj,h2⟩
theorem itf_facts {ps:List Plc} (hW:WI ps) (hS:SndI ps) {r:Int} {m a:Int×Int} {x:HM} (hx:methI ps m.1 m.2=some x) (h:itfI ps r m=(a,0)):∃ y,methI ps a.1 a.2=some y∧y.nm.toList=x.nm.toList∧y.ds.toList=x.ds.toList∧hasI y.fl 1=true∧hasI y.fl 1032=false∧extI ps r a.1=true:=by
  rw [itfI] at h
  cases hD:rfrI ps r m with
  | error e =>
    rw [hD] at h
    simp only [Prod.mk.injEq] at h
    obtain ⟨_,rfl⟩:=h
    rcases rfr_err hD with h|h <;> cases h
  | ok y =>
    obtain ⟨rfl,k,q,rfl,hq⟩:=rfr_ok hx hD
    rw [hD] at h
    simp only at h
    have hlt:=(List.getElem?_eq_some_iff.1 hq).1
    split at h
    · simp at h
    · split at h
      · rename_i h0
        split at h
        · rename_i hp
          obtain ⟨rfl,hab⟩:=una_facts h
          have hu:uppI ps y.nm y.ds (chL (ps.map nd) k)=((uchI ps y.nm y.ds (k:Int)).1,true):=by
            have e:uchI ps y.nm y.ds (k:Int)=uppI ps y.nm y.ds (chL (ps.map nd) k):=by rw [uchI,plcI_nat,hq];rfl
            rw [e] at h0 ⊢
            exact Prod.ext rfl h0
          obtain ⟨i,hi,e1,⟨z,hz,e2,e3⟩,e4⟩:=upp_facts hu
          rw [hasS,hz] at hp hab e4
          refine ⟨z,hz,e2,e3,hp,?_,by rw [e1];exact chain_ext hlt hW hi⟩
          have e4:hasI z.fl 8=false:=e4
          have hab:hasI z.fl 1024=false:=hab
          rw [has1032,e4,hab];rfl
        · simp at h
      · obtain ⟨z,h1,h2,h3,h4,h5,h6,h7⟩:=on_facts hW hq h
        rw [has10c,Bool.or_eq_false_iff] at h4
        refine ⟨z,h1,h2,h3,hS.pub h1 h7 h4.1,?_,h6⟩
        rw [has1032,h4.2,h5];rfl
theorem vir_none {ps:List Plc} {r:Int} {m:Int×Int} (hx:methI ps m.1 m.2=none):(virI ps r m).2=3:=by
  have:crdI ps r m=.error 3:=by
    rw [crdI,hx]
    cases plcI ps r <;> rfl
  rw [virI,rfrI,this]
end Go.Proofs.YtfoldbhlmmmpeaaGreat
