import Derived.Test.YtfjekhmnjfcbeaaGreatGrB
import Derived.Test.YtfjekhmnjfcbeaaGreatRsA
import Derived.Test.YtfjekhmnjfcbeaaGreatDlA
import Derived.Test.YtfjekhmnjfcbeaaGreatRfB
import Derived.IntWalk
set_option maxRecDepth 100000
namespace Go.Proofs.YtfjekhmnjfcbeaaGreat
open Go.RowKit Go.Maps
theorem mths_eachp {iface:Bool} {all:List Mth}:∀ {l:List Mth} {k:Nat},mthsB iface all l k=true→∀ m∈l,mthB m iface=true
  | [],_,_,m,hm=>by cases hm
  | x::r,k,h,m,hm=>by
    rw [mthsB,Bool.and_eq_true,Bool.and_eq_true] at h
    rcases List.mem_cons.1 hm with rfl|hm
    · exact h.1.1
    · exact mths_eachp h.2 m hm
theorem priv_open {f:Int} {i n:Bool} (h:chkM f i n=0) (h2:hasI f 2=true):openI f=2∧hasI f 1024=false:=by
  have hv:¬ 1<visN f:=by
    intro hv
    rw [chkM] at h
    simp [hv] at h
  have ha:hasI f 1024=false:=by
    cases e:hasI f 1024 with
    | false=>rfl
    | true =>
      rw [chkM] at h
      simp [e,h2] at h
  refine ⟨?_,ha⟩
  unfold visN at hv
  unfold openI
  cases e1:hasI f 1 <;> cases e4:hasI f 4 <;> simp [e1,e4,h2] at hv ⊢
def UnqM (ps:List Plc):Prop:=∀ q∈ps,∀ (i:Nat) (m:HM),q.c.ms[i]?=some m→findH m.nm m.ds q.c.ms 0=(i:Int)
theorem find_map (nm ds:ByteArray):∀ (l:List Mth) (k:Nat),findH nm ds (l.map hmOf) k=findM nm ds l k
  | [],_=>rfl
  | m::r,k=>by
    rw [List.map_cons,findH,findM,find_map nm ds r (k+1)]
    rfl
theorem mths_find {iface:Bool} {all:List Mth}:∀ {l:List Mth} {k:Nat},mthsB iface all l k=true→∀ (i:Nat) (m:Mth),l[i]?=some m→findM m.nm m.ds all 0=((k+i:Nat):Int)
  | [],_,_,_,_,hm=>by simp at hm
  | x::r,k,h,i,m,hm=>by
    rw [mthsB,Bool.and_eq_true,Bool.and_eq_true,beq_iff_eq] at h
    cases i with
    | zero =>
      simp only [List.getElem?_cons_zero,Option.some.injEq] at hm
      subst hm
      exact h.1.2
    | succ i =>
      rw [List.getElem?_cons_succ] at hm
      have:=mths_find h.2 i m hm
      rw [this];congr 1;omega
theorem unqObj:(objMs.zipIdx.all fun p=>findH p.1.nm p.1.ds objMs 0 == (p.2:Int))=true:=by kernel_rfl
theorem unqM3:UnqM P3:=by
  intro q hq i m hm
  simp only [P3,List.mem_cons,List.not_mem_nil,or_false] at hq
  rcases hq with rfl|rfl|rfl
  · have:=List.all_eq_true.1 unqObj (m,i) (List.mem_zipIdx_iff_getElem?.2 hm)
    exact beq_iff_eq.1 this
  · simp [cloH] at hm
  · simp [serH] at hm
theorem unqM_wld (l:List Cls) (hl:∀ c∈l,ClsW c):UnqM (wld l):=by
  refine wld_ind unqM3 (fun ps c h _=>?_) l hl
  cases hd:defN ps c with
  | error e=>exact h
  | ok p =>
    obtain ⟨hB,_,_,s,l,_,_,rfl⟩:=def_ok hd
    intro q hq i m hm
    rcases List.mem_append.1 (show q∈ps++[_] from hq) with hq|hq
    · exact h q hq i m hm
    · rw [List.mem_singleton] at hq
      subst hq
      have hm2:(c.ms.map hmOf)[i]?=some m:=hm
      rw [List.getElem?_map] at hm2
      obtain ⟨m0,hm0,rfl⟩:=Option.map_eq_some_iff.1 hm2
      rw [clsB,Bool.and_eq_true] at hB
      have:=mths_find hB.2 i m0 hm0
      show findH m0.nm m0.ds (c.ms.map hmOf) 0=(i:Int)
      rw [find_map,this,Nat.zero_add]
theorem find_congr {nm ds nm2 ds2:ByteArray} (h1:nm.toList=nm2.toList) (h2:ds.toList=ds2.toList):∀ (l:List HM) (k:Nat),findH nm ds l k=findH nm2 ds2 l k
  | [],_=>rfl
  | m::r,k=>by rw [findH,findH,h1,h2,find_congr h1 h2 r (k+1)]
theorem UnqM.fnd {ps:List Plc} (h:UnqM ps) {c i:Int} {m:HM} (hm:methI ps c i=some m) {nm ds:ByteArray} (h1:m.nm.toList=nm.toList) (h2:m.ds.toList=ds.toList):fndI ps c nm ds=(i,0):=by
  obtain ⟨k,q,rfl,hq,hp,hm2⟩:=meth_plc hm
  rw [methP] at hm2
  split at hm2
  · rename_i hi
    have:=h q (List.mem_of_getElem? hq) i.toNat m hm2
    have e:findH nm ds q.c.ms 0=i:=by rw [← find_congr h1 h2,this];omega
    rw [fndI,hp]
    simp only [e]
    rw [if_neg (by omega)]
  · cases hm2
theorem extI_split {ps:List Plc} {a b:Int} (h:extI ps a b=true):∃ i j:Nat,a=(i:Int)∧b=(j:Int)∧i<ps.length∧j<ps.length∧extB (ps.map nd) i j=true:=by
  rw [extI,Bool.and_eq_true,Bool.and_eq_true] at h
  obtain ⟨⟨h1,h2⟩,h3⟩:=h
  rcases plcI_cases ps a with ⟨e,_⟩|⟨i,q,rfl,hq,_⟩
  · rw [e] at h1;cases h1
  · rcases plcI_cases ps b with ⟨e,_⟩|⟨j,r,rfl,hr,_⟩
    · rw [e] at h2;cases h2
    · exact ⟨i,j,rfl,rfl,(List.getElem?_eq_some_iff.1 hq).1,(List.getElem?_eq_some_iff.1 hr).1,h3⟩
theorem extI_tr {ps:List Plc} (hW:WI ps) {a b c:Int} (h1:extI ps a b=true) (h2:extI ps b c=true):extI ps a c=true:=by
  obtain ⟨i,j,rfl,rfl,hi,hj,e1⟩:=extI_split h1
  obtain ⟨j2,k,hjj,rfl,_,hk,e2⟩:=extI_split h2
  obtain rfl:j=j2:=by omega
  rw [extI_nat hi hk]
  exact ext_trans hW.wo (by simpa using hi) e1 e2
theorem extI_le {ps:List Plc} (hW:WI ps) {a b:Int} (h1:extI ps a b=true):b≤a:=by
  obtain ⟨i,j,rfl,rfl,hi,hj,e1⟩:=extI_split h1
  have:=ext_le hW.wo (by simpa using hi) e1
  omega
theorem extI_refl {ps:List Plc} {c i:Int} {m:HM} (h:methI ps c i=some m):extI ps c c=true:=by
  obtain ⟨k,q,rfl,hq,_,_⟩:=meth_plc h
  have:=(List.getElem?_eq_some_iff.1 hq).1
  rw [extI_nat this this]
  exact ext_self _ _
theorem pl_facts {ps:List Plc} {x y:Int×Int} (h:plI ps x y=true):∃ mx my,methI ps x.1 x.2=some mx∧methI ps y.1 y.2=some my∧mx.nm.toList=my.nm.toList∧mx.ds.toList=my.ds.toList∧stB mx.fl=false∧stB my.fl=false∧x.1≠y.1∧ifcI ps x.1=false∧extI ps x.1 y.1=true:=by
  rw [plI] at h
  cases hx:methI ps x.1 x.2 with
  | none=>rw [hx] at h;cases h
  | some mx =>
    cases hy:methI ps y.1 y.2 with
    | none=>rw [hx,hy] at h;cases h
    | some my =>
      rw [hx,hy] at h
      simp only [plnB,freB,bloB,Bool.and_eq_true,Bool.not_eq_true',beq_iff_eq,beq_eq_false_iff_ne] at h
      obtain ⟨⟨⟨⟨⟨⟨h1,h2⟩,h3⟩,h4⟩,h5⟩,_⟩,_⟩:=h
      exact ⟨mx,my,rfl,rfl,h3,h4,h1.1,h2.1,h5.1.1,h5.1.2,h5.2⟩
def OvN (ps:List Plc) (a:Int×Int):Nat→Int×Int→Prop
  | 0,x=>x=a∧stI ps a=false
  | n+1,x=>∃ y,OvN ps a n y∧plI ps x y=true
def Ov (ps:List Plc) (a x:Int×Int):Prop:=∃ n,OvN ps a n x
theorem Ov.step {ps:List Plc} {a x y:Int×Int} (h:Ov ps a y) (hp:plI ps x y=true):Ov ps a x:=by
  obtain ⟨n,hn⟩:=h
  exact ⟨n+1,y,hn,hp⟩
theorem ovN_facts {ps:List Plc} (hW:WI ps) {a:Int×Int} {ma:HM} (ha:methI ps a.1 a.2=some ma):∀ (n:Nat) (x:Int×Int),OvN ps a n x→∃ mx,methI ps x.1 x.2=some mx∧mx.nm.toList=ma.nm.toList∧mx.ds.toList=ma.ds.toList∧stB mx.fl=false∧extI ps x.1 a.1=true∧(x=a∨(ifcI ps x.1=false∧a.1<x.1))
  | 0,x,h=>by
    obtain ⟨rfl,hs⟩:=h
    refine ⟨ma,ha,rfl,rfl,?_,extI_refl ha,.inl rfl⟩
    rw [stI,ha] at hs
    exact hs
  | n+1,x,h=>by
    obtain ⟨y,hy,hp⟩:=h
    obtain ⟨my,hmy,e1,e2,_,e4,e5⟩:=ovN_facts hW ha n y hy
    obtain ⟨mx,my2,hmx,hmy2,f1,f2,f3,_,f5,f6,f7⟩:=pl_facts hp
    rw [hmy] at hmy2
    cases hmy2
    have hle:=extI_le hW f7
    have hle2:=extI_le hW e4
    exact ⟨mx,hmx,f1.trans e1,f2.trans e2,f3,extI_tr hW f7 e4,.inr ⟨f6,by omega⟩⟩
theorem gth_ov {ps:List Plc} {a:Int×Int}:∀ (l k:List (Int×Int)),(∀ y∈k,Ov ps a y)→∀ x∈l.foldl (gth1 ps a) k,Ov ps a x
  | [],_,hk,x,hx=>hk x hx
  | c::r,k,hk,x,hx=>by
    rw [List.foldl_cons] at hx
    refine gth_ov r _ (fun y hy=>?_) x hx
    rw [gth1] at hy
    split at hy
    · rename_i hc
      rcases List.mem_append.1 hy with hy|hy
      · exact hk y hy
      · rw [List.mem_singleton] at hy
        subst hy
        rw [Bool.or_eq_true] at hc
        rcases hc with hc|hc
        · rw [Bool.and_eq_true,eqI_iff] at hc
          obtain ⟨rfl,hs⟩:=hc
          exact ⟨0,rfl,by simpa using hs⟩
        · obtain ⟨z,hz,hp⟩:=List.any_eq_true.1 hc
          exact (hk z hz).step hp
    · exact hk y hy
theorem ch_desc {ns:List Nd} (h:WO ns) (a:Nat) (ha:a<ns.length):(chL ns a).Pairwise (· > ·):=by
  refine ch_ind h (P:=fun k=>(chL ns k).Pairwise (· > ·)) ?_ (fun k hk h0 hlt ih=>?_) a ha
  · rw [chL_zero];exact List.pairwise_singleton _ _
  · rw [chL_cons h hk h0]
    refine List.pairwise_cons.2 ⟨fun b hb=>?_,ih⟩
    have:=ch_le h _ (by omega) b hb
    omega
theorem nsk_mem {ps:List Plc} {nm ds:ByteArray} {a:Int}:∀ {l:List Nat} {c:Nat},c∈l→(fndI ps (c:Int) nm ds).2=0→(c:Int)≠a→((c:Int),(fndI ps (c:Int) nm ds).1)∈nskL ps nm ds a l
  | [],_,h,_,_=>by cases h
  | d::r,c,h,h1,h2=>by
    rw [nskL]
    rcases List.mem_cons.1 h with rfl|h
    · rw [if_pos ⟨h1,h2⟩];exact List.mem_cons_self
    · split
      · exact List.mem_cons_of_mem _ (nsk_mem h h1 h2)
      · exact nsk_mem h h1 h2
theorem take_lt {l:List Nat} (hl:l.Pairwise (· < ·)) {n d x:Nat} (hd:l[n]?=some d) (hx:x∈l) (hlt:x<d):x∈l.take n:=by
  obtain ⟨i,hi,rfl⟩:=List.getElem_of_mem hx
  obtain ⟨hn,rfl⟩:=List.getElem?_eq_some_iff.1 hd
  have hin:i<n:=by
    rcases Nat.lt_trichotomy i n with h|h|h
    · exact h
    · subst h;omega
    · have:=List.pairwise_iff_getElem.1 hl n i hn hi h;omega
  exact List.mem_take_iff_getElem.2 ⟨i,by omega,rfl⟩
theorem gth_all {ps:List Plc} (hW:WI ps) (hU:UnqM ps) {a:Int×Int} {ma:HM} (ha:methI ps a.1 a.2=some ma) {ck:Nat} (hck:ck<ps.length):∀ n:Nat,∀ x∈askL ps ma a ((chL (ps.map nd) ck).reverse.take n),Ov ps a x→x∈gthL ps a (askL ps ma a ((chL (ps.map nd) ck).reverse.take n)):=by
  have hckl:ck<(ps.map nd).length:=by simpa using hck
  have hasc:(chL (ps.map nd) ck).reverse.Pairwise (· < ·):=by
    rw [List.pairwise_reverse]
    exact ch_desc hW.wo ck hckl
  intro n
  induction n with
  | zero =>
    intro x hx ho
    rw [List.take_zero,askL,nskL,List.mem_singleton] at hx
    subst hx
    obtain ⟨n,hn⟩:=ho
    obtain ⟨mx,hmx,_,_,hs,_⟩:=ovN_facts hW ha n _ hn
    have hst:stI ps x=false:=by rw [stI,hmx];exact hs
    rw [List.take_zero,askL,nskL,gthL,List.foldl_cons,List.foldl_nil,gth1,hst,eqI_iff.2 rfl]
    exact List.mem_singleton.2 rfl
  | succ n ih =>
    intro x hx ho
    by_cases hn:n<(chL (ps.map nd) ck).reverse.length
    · obtain ⟨d,hd⟩:∃ d,(chL (ps.map nd) ck).reverse[n]?=some d:=⟨_,List.getElem?_eq_getElem hn⟩
      have hst:=nskL_take (ps:=ps) (nm:=ma.nm) (ds:=ma.ds) (a:=a.1) hd
      have hask:askL ps ma a ((chL (ps.map nd) ck).reverse.take (n+1))=askL ps ma a ((chL (ps.map nd) ck).reverse.take n)++(if (fndI ps (d:Int) ma.nm ma.ds).2=0∧(d:Int)≠a.1 then [((d:Int),(fndI ps (d:Int) ma.nm ma.ds).1)] else []):=by rw [askL,hst,askL,List.cons_append]
      rw [hask] at hx ⊢
      by_cases hc:(fndI ps (d:Int) ma.nm ma.ds).2=0∧(d:Int)≠a.1
      · rw [if_pos hc] at hx ⊢
        rw [gthL_snoc,gth1]
        rcases List.mem_append.1 hx with hx|hx
        · have:=ih x hx ho
          split
          · exact List.mem_append_left _ this
          · exact this
        · rw [List.mem_singleton] at hx
          subst hx
          obtain ⟨k,hk⟩:=ho
          cases k with
          | zero=>exact absurd (congrArg Prod.fst hk.1) hc.2
          | succ k =>
            obtain ⟨y,hy,hp⟩:=hk
            have hyk:y∈gthL ps a (askL ps ma a ((chL (ps.map nd) ck).reverse.take n)):=by
              refine ih y ?_ ⟨k,hy⟩
              obtain ⟨my,hmy,e1,e2,_,_,e5⟩:=ovN_facts hW ha k y hy
              rcases e5 with rfl|⟨hif,hlt⟩
              · rw [askL];exact List.mem_cons_self
              · obtain ⟨_,_,_,_,_,_,_,_,hne,_,hex⟩:=pl_facts hp
                obtain ⟨i,j,hi,hj,hil,hjl,he⟩:=extI_split hex
                obtain rfl:d=i:=by simp only at hi;omega
                have hdc:d∈chL (ps.map nd) ck:=List.mem_reverse.1 (List.mem_of_getElem? hd)
                have hjd:j∈chL (ps.map nd) d:=by
                  rcases (ext_iff _ _ _).1 he with h|h
                  · exact h
                  · exfalso
                    obtain ⟨_,_,p,hp1,hp2,_⟩:=cl_facts hW.wo h
                    rw [hj,ifcI,plcI_nat] at hif
                    rw [List.getElem?_map] at hp1
                    obtain ⟨q,hq,rfl⟩:=Option.map_eq_some_iff.1 hp1
                    rw [hq] at hif
                    have:(nd q).i=false:=hif
                    rw [this] at hp2
                    cases hp2
                have hjc:j∈chL (ps.map nd) ck:=ch_trans hW.wo ck hckl d hdc j hjd
                have hjlt:j<d:=by
                  have h1:=ch_le hW.wo d (by have:=ch_le hW.wo ck hckl d hdc;omega) j hjd
                  have h2:j≠d:=fun e=>hne (by rw [hj,e])
                  omega
                have hf:=hU.fnd hmy e1 e2
                have hyy:y=((j:Int),(fndI ps (j:Int) ma.nm ma.ds).1):=by
                  rw [hj] at hf
                  rw [hf]
                  exact Prod.ext hj rfl
                rw [askL,hyy]
                refine List.mem_cons_of_mem _ (nsk_mem (take_lt hasc hd (List.mem_reverse.2 hjc) hjlt) ?_ (by omega))
                rw [hj] at hf
                rw [hf]
            rw [if_pos (by rw [Bool.or_eq_true];exact .inr (List.any_eq_true.2 ⟨y,hyk,hp⟩))]
            exact List.mem_append_right _ (List.mem_singleton.2 rfl)
      · rw [if_neg hc,List.append_nil] at hx ⊢
        exact ih x hx ho
    · have e1:(chL (ps.map nd) ck).reverse.take (n+1)=(chL (ps.map nd) ck).reverse.take n:=by rw [List.take_of_length_le (by omega),List.take_of_length_le (by omega)]
      rw [e1] at hx ⊢
      exact ih x hx ho
theorem ovr_iff {ps:List Plc} (hW:WI ps) (hU:UnqM ps) {a c:Int×Int} {ma mc:HM} (ha:methI ps a.1 a.2=some ma) (hc:methI ps c.1 c.2=some mc):(ovrI ps c a).2=0∧((ovrI ps c a).1=true↔Ov ps a c):=by
  obtain ⟨ck,q,hck,hq,_,_⟩:=meth_plc hc
  have hlt:=(List.getElem?_eq_some_iff.1 hq).1
  have e:ovrI ps c a=((gthL ps a (askL ps ma a (chL (ps.map nd) ck).reverse)).any (eqI c),0):=by
    rw [ovrI,hc,ha]
    simp only [hck,Int.toNat_natCast]
  rw [e]
  refine ⟨rfl,?_⟩
  constructor
  · intro h
    obtain ⟨x,hx,he⟩:=List.any_eq_true.1 h
    rw [eqI_iff] at he
    subst he
    exact gth_ov _ [] (fun y hy=>by cases hy) c hx
  · intro h
    refine List.any_eq_true.2 ⟨c,?_,eqI_iff.2 rfl⟩
    have hall:=gth_all hW hU ha hlt (chL (ps.map nd) ck).reverse.length c
    rw [List.take_length] at hall
    refine hall ?_ h
    obtain ⟨n,hn⟩:=h
    obtain ⟨mx,hmx,e1,e2,_,_,e5⟩:=ovN_facts hW ha n c hn
    rcases e5 with rfl|⟨_,hlt2⟩
    · rw [askL];exact List.mem_cons_self
    · have hf:=hU.fnd hmx e1 e2
      rw [hck] at hf
      have hcc:c=((ck:Int),(fndI ps (ck:Int) ma.nm ma.ds).1):=by rw [hf];exact Prod.ext hck rfl
      rw [askL,hcc]
      refine List.mem_cons_of_mem _ (nsk_mem (List.mem_reverse.2 (chL_self _ _)) (by rw [hf]) (by omega))
set_option maxHeartbeats 2000000 in
theorem r9meth_c {b:Nat} {cs:List Cls} {ps:List Plc} {W:World} (h:RAt b cs W) (ht:TwW cs ps) (c i:Int) (x:HM) (hx:methI ps c i=some x):Calls Tryz.prog 131 #[.pointer (some ⟨b,0,none⟩),.agg #[.int .i64 c,.int .i64 i]] W fun e w'=>(∃ a n s,e=.returned (.agg #[.string x.nm,.string x.ds,.int .i64 x.fl,.int .i64 x.lo,.int .i64 x.st,.slice a n s]))∧Below W.heap.size W w':=by
  obtain ⟨k,q,rfl,hq,_,_⟩:=meth_plc hx
  obtain ⟨g,cap,bk,n,cm,j,ac,cc,rfl,b0,hlt,hgl,hkI,c5,hbk,hjn,e0,e1,e2,e3,e4,e5,_,_,_⟩:=h.meth ht hx
  clear h ht hx hq
  have hB:Below W.heap.size W ((W.alloc (.cells #[.int .i64 (k:Int),.int .i64 (j:Int)] 60)).alloc (.cells #[.string ⟨#[]⟩,.string ⟨#[]⟩,.int .i64 0,.int .i64 0,.int .i64 0,.slice none 0 0] 56)):=((Below.refl _ W).alloc (Nat.le_refl _) _).alloc (by simp) _
  have hA:((W.alloc (.cells #[.int .i64 (k:Int),.int .i64 (j:Int)] 60)).alloc (.cells #[.string ⟨#[]⟩,.string ⟨#[]⟩,.int .i64 0,.int .i64 0,.int .i64 0,.slice none 0 0] 56)).heap[W.heap.size]?=some (.cells #[.int .i64 (k:Int),.int .i64 (j:Int)] 60 (0,0)):=hkeep (halloc1 _ _)
  have hZ:((W.alloc (.cells #[.int .i64 (k:Int),.int .i64 (j:Int)] 60)).alloc (.cells #[.string ⟨#[]⟩,.string ⟨#[]⟩,.int .i64 0,.int .i64 0,.int .i64 0,.slice none 0 0] 56)).heap[W.heap.size+1]?=some (.cells #[.string ⟨#[]⟩,.string ⟨#[]⟩,.int .i64 0,.int .i64 0,.int .i64 0,.slice none 0 0] 56 (0,0)):=halloc2 _ _ (by simp)
  replace b0:=(hB.cell (p:=⟨b,0,none⟩) hlt).trans b0
  replace c5:=(hB.cell (p:=⟨g,k * 6+5,none⟩) hgl).trans c5
  replace e0:=(hB.cell (p:=⟨bk,j * 6,none⟩) hbk).trans e0
  replace e1:=(hB.cell (p:=⟨bk,j * 6+1,none⟩) hbk).trans e1
  replace e2:=(hB.cell (p:=⟨bk,j * 6+2,none⟩) hbk).trans e2
  replace e3:=(hB.cell (p:=⟨bk,j * 6+3,none⟩) hbk).trans e3
  replace e4:=(hB.cell (p:=⟨bk,j * 6+4,none⟩) hbk).trans e4
  replace e5:=(hB.cell (p:=⟨bk,j * 6+5,none⟩) hbk).trans e5
  obtain ⟨a0,a1,af,aL⟩:=rw2 hA
  obtain ⟨z0,z1,z2,z3,z4,z5,zf,zL⟩:=rw6 hZ
  have HBH:Hid _:=hB
  have y1:¬ bk=W.heap.size+1:=by omega
  have y2:¬ g=W.heap.size+1:=by omega
  have y3:¬ b=W.heap.size+1:=by omega
  clear hA hZ hB
  go_enter Tryz.func131,Tryz.ntmps131
  go_wp2
  generalize ((W.alloc (.cells #[.int .i64 (k:Int),.int .i64 (j:Int)] 60)).alloc (.cells #[.string ⟨#[]⟩,.string ⟨#[]⟩,.int .i64 0,.int .i64 0,.int .i64 0,.slice none 0 0] 56))=U at *
  go_region
  go_wp2
  refine bodyPost_ret (v:=.agg #[.string x.nm,.string x.ds,.int .i64 x.fl,.int .i64 x.lo,.int .i64 x.st,.slice ac x.n cc]) (by simp [results,Tryz.results131,go_sem, *]) rfl ⟨⟨_,_,_,rfl⟩,?_⟩
  repeat (first|refine Below.setCell ?_ (by simp;try omega) _|refine Below.drew ?_|exact HBH.out)
theorem r9free_c (nm ds:ByteArray) (fl lo st:Int) (a:Option Addr) (n s:Nat) (W:World):Calls Tryz.prog 171 #[.agg #[.string nm,.string ds,.int .i64 fl,.int .i64 lo,.int .i64 st,.slice a n s]] W fun e w'=>e=.returned (.bool (freB fl nm))∧Below W.heap.size W w':=by
  have HF:Hid (∀ w:World,Calls Tryz.prog 73 #[.int .i64 fl,.int .i64 8] w fun e w'=>e=.returned (.bool (hasI fl 8))∧w'=w):=has_any fl 8
  have e:freB fl nm=(!hasI fl 8&&!(nm.toList == [60,105,110,105,116,62])):=rfl
  rw [e]
  generalize hasI fl 8=F at *
  cases F
  all_goals
    go_enter Tryz.func171,Tryz.ntmps171
    go_wp2_with (go_at_call 73;refine (HF.out _).mono ?_;rintro e w9 ⟨rfl,hw9⟩;rw [hw9];clear hw9 w9)
  all_goals go_ret
  all_goals exact ⟨retB (by simp),(by repeat (first|exact Below.refl _ _|refine Below.setCell ?_ (by simp;try omega) _|refine Below.alloc ?_ (by simp;try omega) _|refine Below.drew ?_))⟩
set_option maxHeartbeats 4000000 in
theorem r9is_no {b:Nat} {cs:List Cls} {ps:List Plc} {W:World} (h:RAt b cs W) (ht:TwW cs ps) (c i:Int) (hm:plcI ps c=none):Calls Tryz.prog 80 #[.pointer (some ⟨b,0,none⟩),.agg #[.int .i64 c,.int .i64 i]] W fun e w'=>e=.returned (.bool false)∧Below W.heap.size W w':=by
  obtain ⟨σ,V,hne,V1,V2⟩:=class_of' (fun w'=>Below (W.heap.size+1) (W.alloc (.cells #[.int .i64 c,.int .i64 i] 60)) w') ⟨_,Below.refl _ _⟩
  have hBV:∀ s0,Below W.heap.size W (V s0):=fun s0=>((Below.refl _ W).alloc (Nat.le_refl _) _).trans ((V1.out s0).mono (by omega))
  have HI:Hid (∀ s0,Calls Tryz.prog 75 #[.pointer (some ⟨b,0,none⟩),.int .i64 c] (V s0) fun e w''=>e=.returned (.bool false)∧∃ s',w''=V s'):=fun s0=>(rIn_t (h.below (hBV s0)) ht c).mono fun e w'' zz=>⟨by rw [zz.1,hm];rfl,s0,zz.2⟩
  have m0:∀ s0,(V s0).cell? ⟨W.heap.size,0,none⟩=some (.int .i64 c):=fun s0=>((V1.out s0).cell (p:=⟨W.heap.size,0,none⟩) (show W.heap.size<W.heap.size+1 by omega)).trans (by simp [go_sem])
  have HBV:Hid (∀ s0,Below W.heap.size W (V s0)):=hBV
  have VD:Hid (∃ s1,(W.alloc (.cells #[.int .i64 c,.int .i64 i] 60)).drew=V s1):=V2.out _ ((Below.refl _ _).drew)
  clear h ht hm hBV V1 V2
  go_enter Tryz.func80,Tryz.ntmps80
  go_wp2
  refine wp_region_class (C:=fun w'=>∃ s0,w'=V s0) (by kernel_rfl) (by kernel_rfl) VD.out ?_
  repeat (go_big_quiet_step ((go_at_call 75;exact HI.out _)))
  refine wpQuiet_nil ?_
  intro w9 hw9
  obtain ⟨s9,rfl⟩:=hw9
  go_wp2
  exact bodyPost_ret (results_tmp rfl _ _ _) rfl ⟨rfl,HBV.out s9⟩
set_option maxHeartbeats 4000000 in
theorem r9is_yes {b:Nat} {cs:List Cls} {ps:List Plc} {W:World} (h:RAt b cs W) (ht:TwW cs ps) (k:Nat) (q:Plc) (hq:ps[k]?=some q) (i:Int):Calls Tryz.prog 80 #[.pointer (some ⟨b,0,none⟩),.agg #[.int .i64 (k:Int),.int .i64 i]] W fun e w'=>e=.returned (.bool (methP q i).isSome)∧Below W.heap.size W w':=by
  obtain ⟨c0,hc,hcq⟩:=ht.tw.at' hq
  obtain ⟨c,hcI⟩:∃ c:Int,c=(k:Int):=⟨_,rfl⟩
  rw [← hcI]
  obtain ⟨σ,V,hne,V1,V2⟩:=class_of' (fun w'=>Below (W.heap.size+1) (W.alloc (.cells #[.int .i64 c,.int .i64 i] 60)) w') ⟨_,Below.refl _ _⟩
  have hBV:∀ s0,Below W.heap.size W (V s0):=fun s0=>((Below.refl _ W).alloc (Nat.le_refl _) _).trans ((V1.out s0).mono (by omega))
  have HI:Hid (∀ s0,Calls Tryz.prog 75 #[.pointer (some ⟨b,0,none⟩),.int .i64 c] (V s0) fun e w''=>e=.returned (.bool true)∧∃ s',w''=V s'):=fun s0=>(rIn_t (h.below (hBV s0)) ht c).mono fun e w'' zz=>⟨by rw [zz.1,hcI,plcI_nat,hq];rfl,s0,zz.2⟩
  have m0:∀ s0,(V s0).cell? ⟨W.heap.size,0,none⟩=some (.int .i64 c):=fun s0=>((V1.out s0).cell (p:=⟨W.heap.size,0,none⟩) (show W.heap.size<W.heap.size+1 by omega)).trans (by simp [go_sem])
  have m1:∀ s0,(V s0).cell? ⟨W.heap.size,1,none⟩=some (.int .i64 i):=fun s0=>((V1.out s0).cell (p:=⟨W.heap.size,1,none⟩) (show W.heap.size<W.heap.size+1 by omega)).trans (by simp [go_sem])
  have HBV:Hid (∀ s0,Below W.heap.size W (V s0)):=hBV
  have VD:Hid (∃ s1,(W.alloc (.cells #[.int .i64 c,.int .i64 i] 60)).drew=V s1):=V2.out _ ((Below.refl _ _).drew)
  obtain ⟨g,cap,vi,vm,b0,hlt,hgl,_,_,_,_,_,c5,_,hMs⟩:=RAt.cells h hc
  obtain ⟨am,cm,rfl⟩:=mths_slice hMs
  have kp:∀ (s0:σ) (bb j:Nat) (v:Value),bb<W.heap.size→W.cell? ⟨bb,j,none⟩=some v→(V s0).cell? ⟨bb,j,none⟩=some v:=fun s0 bb j v hl h=>((hBV s0).cell (p:=⟨bb,j,none⟩) hl).trans h
  replace b0:=fun s0=>kp s0 _ _ _ hlt b0
  replace c5:=fun s0=>kp s0 _ _ _ hgl c5
  have hkI:(k:Int)<(cs.length:Int):=by have:=(List.getElem?_eq_some_iff.1 hc).1;omega
  have hlen:q.c.ms.length=c0.ms.length:=by rw [hcq];simp [hcOf]
  have hml:(i<0∧(methP q i).isSome=false)∨(0≤i∧(c0.ms.length:Int)≤i∧(methP q i).isSome=false)∨(0≤i∧i<(c0.ms.length:Int)∧(methP q i).isSome=true):=by
    rcases Int.lt_or_le i 0 with h0|h0
    · exact .inl ⟨h0,by rw [methP,if_neg (by omega)];rfl⟩
    · rcases Int.lt_or_le i (c0.ms.length:Int) with h1|h1
      · exact .inr (.inr ⟨h0,h1,by rw [methP,if_pos h0,List.getElem?_eq_getElem (by omega)];rfl⟩)
      · exact .inr (.inl ⟨h0,h1,by rw [methP,if_pos h0,List.getElem?_eq_none (by omega)];rfl⟩)
  generalize c0.ms.length=n at *
  generalize (methP q i).isSome=R at *
  subst hcI
  clear h ht hBV V1 V2 kp hMs hq hc hcq hlen
  have hml2:(R=false∧decide (0≤i)=false)∨(R=false∧decide (0≤i)=true∧decide (i<(n:Int))=false)∨(R=true∧decide (0≤i)=true∧decide (i<(n:Int))=true):=by
    rcases hml with ⟨h0,h1⟩|⟨h0,h1,h2⟩|⟨h0,h1,h2⟩
    · exact .inl ⟨h1,by simpa using h0⟩
    · exact .inr (.inl ⟨h2,by simpa using h0,by simpa using h1⟩)
    · exact .inr (.inr ⟨h2,by simpa using h0,by simpa using h1⟩)
  clear hml
  rcases hml2 with ⟨rfl,hi1⟩|⟨rfl,hi1,hi2⟩|⟨rfl,hi1,hi2⟩
  all_goals
    go_enter Tryz.func80,Tryz.ntmps80
    go_wp2
    refine wp_region_class (C:=fun w'=>∃ s0,w'=V s0) (by kernel_rfl) (by kernel_rfl) VD.out ?_
    repeat (go_big_quiet_step ((go_at_call 75;exact HI.out _)))
    refine wpQuiet_nil ?_
    intro w9 hw9
    obtain ⟨s9,rfl⟩:=hw9
    go_wp2
    exact bodyPost_ret (results_tmp rfl _ _ _) rfl ⟨by simp [*],HBV.out s9⟩
theorem r9is_c {b:Nat} {cs:List Cls} {ps:List Plc} {W:World} (h:RAt b cs W) (ht:TwW cs ps) (c i:Int):Calls Tryz.prog 80 #[.pointer (some ⟨b,0,none⟩),.agg #[.int .i64 c,.int .i64 i]] W fun e w'=>e=.returned (.bool (methI ps c i).isSome)∧Below W.heap.size W w':=by
  rcases plcI_cases ps c with ⟨h1,_⟩|⟨k,q,rfl,h2,h1⟩
  · have e:(methI ps c i).isSome=false:=by rw [methI,h1];rfl
    rw [e];exact r9is_no h ht c i h1
  · have e:methI ps (k:Int) i=methP q i:=by rw [methI,h1];rfl
    rw [e];exact r9is_yes h ht k q h2 i
def SndI (ps:List Plc):Prop:=∀ q∈ps,∀ m∈q.c.ms,∃ n,chkM m.fl (ifB q.c.fl) n=0
theorem sndI3:SndI P3:=by
  intro q hq m hm
  simp only [P3,List.mem_cons,List.not_mem_nil,or_false] at hq
  rcases hq with rfl|rfl|rfl
  · simp only [objH,objMs,List.mem_cons,List.not_mem_nil,or_false] at hm
    rcases hm with rfl|rfl|rfl <;> exact ⟨false,by decide⟩
  · simp only [cloH,List.not_mem_nil] at hm
  · simp only [serH,List.not_mem_nil] at hm
theorem sndI_wld (l:List Cls) (hl:∀ c∈l,ClsW c):SndI (wld l):=by
  refine wld_ind sndI3 (fun ps c h _=>?_) l hl
  cases hd:defN ps c with
  | error e=>exact h
  | ok p =>
    obtain ⟨hB,_,_,s,l,_,_,rfl⟩:=def_ok hd
    intro q hq m hm
    rcases List.mem_append.1 (show q∈ps++[_] from hq) with hq|hq
    · exact h q hq m hm
    · rw [List.mem_singleton] at hq
      subst hq
      obtain ⟨m0,hm0,rfl⟩:=List.mem_map.1 (show m∈c.ms.map hmOf from hm)
      rw [clsB,Bool.and_eq_true] at hB
      have hmb:=mths_eachp hB.2 m0 hm0
      simp only [mthB,Bool.and_eq_true,beq_iff_eq] at hmb
      exact ⟨_,hmb.1.1.1.2⟩
set_option maxHeartbeats 16000000 in
theorem r9pw (W:World) (b:Nat) (c1 c2 a1 a2:Int) (xn xd:ByteArray) (xf xl xs:Int) (yn yd:ByteArray) (yf yl ys:Int) (f1 f2 p2 ic ex ia sp R:Bool) (o:Int)
    (hR:(f1=false∧R=false)∨(f1=true∧f2=false∧R=false)∨(f1=true∧f2=true∧(xn.toList == yn.toList)=false∧R=false)∨(f1=true∧f2=true∧(xn.toList == yn.toList)=true∧(xd.toList == yd.toList)=false∧R=false)∨(f1=true∧f2=true∧(xn.toList == yn.toList)=true∧(xd.toList == yd.toList)=true∧p2=true∧R=false)∨(f1=true∧f2=true∧(xn.toList == yn.toList)=true∧(xd.toList == yd.toList)=true∧p2=false∧ic=true∧R=false)∨(f1=true∧f2=true∧(xn.toList == yn.toList)=true∧(xd.toList == yd.toList)=true∧p2=false∧ic=false∧(c1 == a1)=true∧R=false)∨(f1=true∧f2=true∧(xn.toList == yn.toList)=true∧(xd.toList == yd.toList)=true∧p2=false∧ic=false∧(c1 == a1)=false∧ex=false∧R=false)∨(f1=true∧f2=true∧(xn.toList == yn.toList)=true∧(xd.toList == yd.toList)=true∧p2=false∧ic=false∧(c1 == a1)=false∧ex=true∧ia=true∧o=2∧R=false)∨(f1=true∧f2=true∧(xn.toList == yn.toList)=true∧(xd.toList == yd.toList)=true∧p2=false∧ic=false∧(c1 == a1)=false∧ex=true∧ia=true∧o=1∧R=true)∨(f1=true∧f2=true∧(xn.toList == yn.toList)=true∧(xd.toList == yd.toList)=true∧p2=false∧ic=false∧(c1 == a1)=false∧ex=true∧ia=true∧o=4∧R=true)∨(f1=true∧f2=true∧(xn.toList == yn.toList)=true∧(xd.toList == yd.toList)=true∧p2=false∧ic=false∧(c1 == a1)=false∧ex=true∧ia=true∧o=0∧R=true)∨(f1=true∧f2=true∧(xn.toList == yn.toList)=true∧(xd.toList == yd.toList)=true∧p2=false∧ic=false∧(c1 == a1)=false∧ex=true∧ia=false∧o=1∧R=true)∨(f1=true∧f2=true∧(xn.toList == yn.toList)=true∧(xd.toList == yd.toList)=true∧p2=false∧ic=false∧(c1 == a1)=false∧ex=true∧ia=false∧o=4∧R=true)∨(f1=true∧f2=true∧(xn.toList == yn.toList)=true∧(xd.toList == yd.toList)=true∧p2=false∧ic=false∧(c1 == a1)=false∧ex=true∧ia=false∧o=2∧R=false)∨(f1=true∧f2=true∧(xn.toList == yn.toList)=true∧(xd.toList == yd.toList)=true∧p2=false∧ic=false∧(c1 == a1)=false∧ex=true∧ia=false∧o=0∧sp=true∧R=true)∨(f1=true∧f2=true∧(xn.toList == yn.toList)=true∧(xd.toList == yd.toList)=true∧p2=false∧ic=false∧(c1 == a1)=false∧ex=true∧ia=false∧o=0∧sp=false∧R=false))
    (HM1:Hid (∀ w,Below W.heap.size W w→Calls Tryz.prog 131 #[.pointer (some ⟨b,0,none⟩),.agg #[.int .i64 c1,.int .i64 c2]] w fun e w'=>(∃ a n s,e=.returned (.agg #[.string xn,.string xd,.int .i64 xf,.int .i64 xl,.int .i64 xs,.slice a n s]))∧Below w.heap.size w w'))
    (HM2:Hid (∀ w,Below W.heap.size W w→Calls Tryz.prog 131 #[.pointer (some ⟨b,0,none⟩),.agg #[.int .i64 a1,.int .i64 a2]] w fun e w'=>(∃ a n s,e=.returned (.agg #[.string yn,.string yd,.int .i64 yf,.int .i64 yl,.int .i64 ys,.slice a n s]))∧Below w.heap.size w w'))
    (HF1:Hid (∀ a n s w,Below W.heap.size W w→Calls Tryz.prog 171 #[.agg #[.string xn,.string xd,.int .i64 xf,.int .i64 xl,.int .i64 xs,.slice a n s]] w fun e w'=>(e=.returned (.bool f1))∧Below w.heap.size w w'))
    (HF2:Hid (∀ a n s w,Below W.heap.size W w→Calls Tryz.prog 171 #[.agg #[.string yn,.string yd,.int .i64 yf,.int .i64 yl,.int .i64 ys,.slice a n s]] w fun e w'=>(e=.returned (.bool f2))∧Below w.heap.size w w'))
    (HH:Hid (∀ w,Calls Tryz.prog 73 #[.int .i64 xf,.int .i64 2] w fun e w'=>(e=.returned (.bool p2))∧w'=w))
    (HI1:Hid (∀ w,Below W.heap.size W w→Calls Tryz.prog 72 #[.pointer (some ⟨b,0,none⟩),.int .i64 c1] w fun e w'=>(e=.returned (.bool ic))∧w'=w))
    (HI2:Hid (∀ w,Below W.heap.size W w→Calls Tryz.prog 72 #[.pointer (some ⟨b,0,none⟩),.int .i64 a1] w fun e w'=>(e=.returned (.bool ia))∧w'=w))
    (HE:Hid (∀ w,Below W.heap.size W w→Calls Tryz.prog 96 #[.pointer (some ⟨b,0,none⟩),.int .i64 c1,.int .i64 a1] w fun e w'=>(e=.returned (.bool ex))∧Below w.heap.size w w'))
    (HO:Hid (∀ w,Calls Tryz.prog 172 #[.int .i64 yf] w fun e w'=>(e=.returned (.int .i64 o))∧w'=w))
    (HS:Hid (∀ w,Below W.heap.size W w→Calls Tryz.prog 173 #[.pointer (some ⟨b,0,none⟩),.int .i64 c1,.int .i64 a1] w fun e w'=>(e=.returned (.bool sp))∧Below w.heap.size w w')):Calls Tryz.prog 134 #[.pointer (some ⟨b,0,none⟩),.agg #[.int .i64 c1,.int .i64 c2],.agg #[.int .i64 a1,.int .i64 a2]] W fun e w'=>e=.returned (.bool R)∧Below W.heap.size W w':=by
  have BB:Hid (Below W.heap.size W W):=Below.refl _ _
  rcases hR with ⟨rfl,rfl⟩|⟨rfl,rfl,rfl⟩|⟨rfl,rfl,hen,rfl⟩|⟨rfl,rfl,hen,hed,rfl⟩|⟨rfl,rfl,hen,hed,rfl,rfl⟩|⟨rfl,rfl,hen,hed,rfl,rfl,rfl⟩|⟨rfl,rfl,hen,hed,rfl,rfl,hce,rfl⟩|⟨rfl,rfl,hen,hed,rfl,rfl,hce,rfl,rfl⟩|⟨rfl,rfl,hen,hed,rfl,rfl,hce,rfl,rfl,rfl,rfl⟩|⟨rfl,rfl,hen,hed,rfl,rfl,hce,rfl,rfl,rfl,rfl⟩|⟨rfl,rfl,hen,hed,rfl,rfl,hce,rfl,rfl,rfl,rfl⟩|⟨rfl,rfl,hen,hed,rfl,rfl,hce,rfl,rfl,rfl,rfl⟩|⟨rfl,rfl,hen,hed,rfl,rfl,hce,rfl,rfl,rfl,rfl⟩|⟨rfl,rfl,hen,hed,rfl,rfl,hce,rfl,rfl,rfl,rfl⟩|⟨rfl,rfl,hen,hed,rfl,rfl,hce,rfl,rfl,rfl,rfl⟩|⟨rfl,rfl,hen,hed,rfl,rfl,hce,rfl,rfl,rfl,rfl,rfl⟩|⟨rfl,rfl,hen,hed,rfl,rfl,hce,rfl,rfl,rfl,rfl,rfl⟩
  all_goals
    go_enter Tryz.func134,Tryz.ntmps134
    go_wp2_with (first
      | (go_at_call 131;refine (HM1.out _ (by repeat (first|refine Below.setCell ?_ (by simp;try omega) _|refine Below.alloc ?_ (by have:=BB.out.size;simp;try omega) _|refine Below.drew ?_|exact BB.out))).mono ?_;rintro e w1 ⟨⟨xa,xk,xo,rfl⟩,hb⟩;have cbd:=kp2 (n:=W.heap.size) hb (by first|omega|(simp;try omega)) (hkeep (halloc1 _ _));(try clear cbB cb0 cb1 cbf cbL cbN);obtain ⟨cbB,cb0,cb1,cbf,cbL,cbN⟩:=cbd;have abd:=kp2 (n:=W.heap.size+1) hb (by first|omega|(simp;try omega)) (halloc2 _ _ (by simp));(try clear abB ab0 ab1 abf abL abN);obtain ⟨abB,ab0,ab1,abf,abL,abN⟩:=abd;have BB2:Below W.heap.size W w1:=bstep (by repeat (first|refine Below.setCell ?_ (by simp;try omega) _|refine Below.alloc ?_ (by have:=BB.out.size;simp;try omega) _|refine Below.drew ?_|exact BB.out)) hb;clear BB;have BB:Hid (Below W.heap.size W w1):=BB2;clear HM1;clear BB2 hb)
      | (go_at_call 131;refine (HM2.out _ (by repeat (first|refine Below.setCell ?_ (by simp;try omega) _|refine Below.alloc ?_ (by have:=BB.out.size;simp;try omega) _|refine Below.drew ?_|exact BB.out))).mono ?_;rintro e w2 ⟨⟨ya,yk,yo,rfl⟩,hb⟩;have cbd:=kp2 (n:=W.heap.size) hb (by first|omega|(simp;try omega)) (hkeep cbB.out);(try clear cbB cb0 cb1 cbf cbL cbN);obtain ⟨cbB,cb0,cb1,cbf,cbL,cbN⟩:=cbd;have abd:=kp2 (n:=W.heap.size+1) hb (by first|omega|(simp;try omega)) (hkeep abB.out);(try clear abB ab0 ab1 abf abL abN);obtain ⟨abB,ab0,ab1,abf,abL,abN⟩:=abd;have mxd:=kp6 (n:=w1.heap.size) hb (by first|omega|(simp;try omega)) (halloc1 _ _);(try clear mxB mx0 mx1 mx2 mx3 mx4 mx5 mxf mxL mxN);obtain ⟨mxB,mx0,mx1,mx2,mx3,mx4,mx5,mxf,mxL,mxN⟩:=mxd;have BB2:Below W.heap.size W w2:=bstep (by repeat (first|refine Below.setCell ?_ (by simp;try omega) _|refine Below.alloc ?_ (by have:=BB.out.size;simp;try omega) _|refine Below.drew ?_|exact BB.out)) hb;clear BB;have BB:Hid (Below W.heap.size W w2):=BB2;clear HM2;clear BB2 hb)
      | (go_at_call 171;refine (HF1.out _ _ _ _ (by repeat (first|refine Below.setCell ?_ (by simp;try omega) _|refine Below.alloc ?_ (by have:=BB.out.size;simp;try omega) _|refine Below.drew ?_|exact BB.out))).mono ?_;rintro e w3 ⟨rfl,hb⟩;have cbd:=kp2 (n:=W.heap.size) hb (by first|omega|(simp;try omega)) (hkeep cbB.out);(try clear cbB cb0 cb1 cbf cbL cbN);obtain ⟨cbB,cb0,cb1,cbf,cbL,cbN⟩:=cbd;have abd:=kp2 (n:=W.heap.size+1) hb (by first|omega|(simp;try omega)) (hkeep abB.out);(try clear abB ab0 ab1 abf abL abN);obtain ⟨abB,ab0,ab1,abf,abL,abN⟩:=abd;have mxd:=kp6 (n:=w1.heap.size) hb (by first|omega|(simp;try omega)) (hkeep mxB.out);(try clear mxB mx0 mx1 mx2 mx3 mx4 mx5 mxf mxL mxN);obtain ⟨mxB,mx0,mx1,mx2,mx3,mx4,mx5,mxf,mxL,mxN⟩:=mxd;have myd:=kp6 (n:=w2.heap.size) hb (by first|omega|(simp;try omega)) (halloc1 _ _);(try clear myB my0 my1 my2 my3 my4 my5 myf myL myN);obtain ⟨myB,my0,my1,my2,my3,my4,my5,myf,myL,myN⟩:=myd;have BB2:Below W.heap.size W w3:=bstep (by repeat (first|refine Below.setCell ?_ (by simp;try omega) _|refine Below.alloc ?_ (by have:=BB.out.size;simp;try omega) _|refine Below.drew ?_|exact BB.out)) hb;clear BB;have BB:Hid (Below W.heap.size W w3):=BB2;clear HF1;clear BB2 hb)
      | (go_at_call 171;refine (HF2.out _ _ _ _ (by repeat (first|refine Below.setCell ?_ (by simp;try omega) _|refine Below.alloc ?_ (by have:=BB.out.size;simp;try omega) _|refine Below.drew ?_|exact BB.out))).mono ?_;rintro e w4 ⟨rfl,hb⟩;have cbd:=kp2 (n:=W.heap.size) hb (by first|omega|(simp;try omega)) (cbB.out);(try clear cbB cb0 cb1 cbf cbL cbN);obtain ⟨cbB,cb0,cb1,cbf,cbL,cbN⟩:=cbd;have abd:=kp2 (n:=W.heap.size+1) hb (by first|omega|(simp;try omega)) (abB.out);(try clear abB ab0 ab1 abf abL abN);obtain ⟨abB,ab0,ab1,abf,abL,abN⟩:=abd;have mxd:=kp6 (n:=w1.heap.size) hb (by first|omega|(simp;try omega)) (mxB.out);(try clear mxB mx0 mx1 mx2 mx3 mx4 mx5 mxf mxL mxN);obtain ⟨mxB,mx0,mx1,mx2,mx3,mx4,mx5,mxf,mxL,mxN⟩:=mxd;have myd:=kp6 (n:=w2.heap.size) hb (by first|omega|(simp;try omega)) (myB.out);(try clear myB my0 my1 my2 my3 my4 my5 myf myL myN);obtain ⟨myB,my0,my1,my2,my3,my4,my5,myf,myL,myN⟩:=myd;have BB2:Below W.heap.size W w4:=bstep (by repeat (first|refine Below.setCell ?_ (by simp;try omega) _|refine Below.alloc ?_ (by have:=BB.out.size;simp;try omega) _|refine Below.drew ?_|exact BB.out)) hb;clear BB;have BB:Hid (Below W.heap.size W w4):=BB2;clear HF2;clear BB2 hb)
      | (go_at_call 73;refine (HH.out _).mono ?_;rintro e w9 ⟨rfl,hw9⟩;rw [hw9];clear hw9 w9)
      | (go_at_call 72;refine (HI1.out _ (by repeat (first|refine Below.setCell ?_ (by simp;try omega) _|refine Below.alloc ?_ (by have:=BB.out.size;simp;try omega) _|refine Below.drew ?_|exact BB.out))).mono ?_;rintro e w9 ⟨rfl,hw9⟩;rw [hw9];clear hw9 w9;clear HI1)
      | (go_at_call 72;refine (HI2.out _ (by repeat (first|refine Below.setCell ?_ (by simp;try omega) _|refine Below.alloc ?_ (by have:=BB.out.size;simp;try omega) _|refine Below.drew ?_|exact BB.out))).mono ?_;rintro e w9 ⟨rfl,hw9⟩;rw [hw9];clear hw9 w9)
      | (go_at_call 96;refine (HE.out _ (by repeat (first|refine Below.setCell ?_ (by simp;try omega) _|refine Below.alloc ?_ (by have:=BB.out.size;simp;try omega) _|refine Below.drew ?_|exact BB.out))).mono ?_;rintro e w5 ⟨rfl,hb⟩;have cbd:=kp2 (n:=W.heap.size) hb (by first|omega|(simp;try omega)) (cbB.out);(try clear cbB cb0 cb1 cbf cbL cbN);obtain ⟨cbB,cb0,cb1,cbf,cbL,cbN⟩:=cbd;have abd:=kp2 (n:=W.heap.size+1) hb (by first|omega|(simp;try omega)) (abB.out);(try clear abB ab0 ab1 abf abL abN);obtain ⟨abB,ab0,ab1,abf,abL,abN⟩:=abd;have myd:=kp6 (n:=w2.heap.size) hb (by first|omega|(simp;try omega)) (myB.out);(try clear myB my0 my1 my2 my3 my4 my5 myf myL myN);obtain ⟨myB,my0,my1,my2,my3,my4,my5,myf,myL,myN⟩:=myd;have BB2:Below W.heap.size W w5:=bstep (by repeat (first|refine Below.setCell ?_ (by simp;try omega) _|refine Below.alloc ?_ (by have:=BB.out.size;simp;try omega) _|refine Below.drew ?_|exact BB.out)) hb;clear BB;have BB:Hid (Below W.heap.size W w5):=BB2;clear HE;clear BB2 hb)
      | (go_at_call 172;refine (HO.out _).mono ?_;rintro e w9 ⟨rfl,hw9⟩;rw [hw9];clear hw9 w9)
      | (go_at_call 173;refine (HS.out _ (by repeat (first|refine Below.setCell ?_ (by simp;try omega) _|refine Below.alloc ?_ (by have:=BB.out.size;simp;try omega) _|refine Below.drew ?_|exact BB.out))).mono ?_;rintro e w6 ⟨rfl,hb⟩;have BB2:Below W.heap.size W w6:=bstep (by repeat (first|refine Below.setCell ?_ (by simp;try omega) _|refine Below.alloc ?_ (by have:=BB.out.size;simp;try omega) _|refine Below.drew ?_|exact BB.out)) hb;clear BB;have BB:Hid (Below W.heap.size W w6):=BB2;clear HS;clear BB2 hb))
  all_goals go_ret
  all_goals exact ⟨retB (by simp [*]),(by repeat (first|refine Below.setCell ?_ (by simp;try omega) _|refine Below.alloc ?_ (by have:=BB.out.size;simp;try omega) _|refine Below.drew ?_|exact BB.out))⟩
theorem SndI.priv {ps:List Plc} (h:SndI ps) {c i:Int} {m:HM} (hm:methI ps c i=some m):hasI m.fl 2=(openI m.fl == 2):=by
  obtain ⟨k,q,_,hq,hp,h4⟩:=meth_plc hm
  have hmem:m∈q.c.ms:=by
    rw [methP] at h4
    split at h4
    · exact List.mem_of_getElem? h4
    · cases h4
  obtain ⟨n,hc⟩:=h q (List.mem_of_getElem? hq) m hmem
  cases e:hasI m.fl 2 with
  | true=>rw [(priv_open hc e).1];rfl
  | false =>
    rw [openI,e]
    cases hasI m.fl 1 <;> cases hasI m.fl 4 <;> rfl
theorem r9plain_c {b:Nat} {cs:List Cls} {ps:List Plc} {W:World} (h:RAt b cs W) (ht:TwW cs ps) (hJ:WJ ps) (hS:SndI ps) (hz:∀ c∈cs,c.nm.size≤maxLen) (c1 c2 a1 a2:Int) (x y:HM) (hx:methI ps c1 c2=some x) (hy:methI ps a1 a2=some y):Calls Tryz.prog 134 #[.pointer (some ⟨b,0,none⟩),.agg #[.int .i64 c1,.int .i64 c2],.agg #[.int .i64 a1,.int .i64 a2]] W fun e w'=>e=.returned (.bool (plI ps (c1,c2) (a1,a2)))∧Below W.heap.size W w':=by
  have eR:plI ps (c1,c2) (a1,a2)=plnB ps x.nm x.ds x.fl c1 y.nm y.ds y.fl a1:=by rw [plI];simp only [hx,hy]
  rw [eR]
  refine r9pw W b c1 c2 a1 a2 x.nm x.ds x.fl x.lo x.st y.nm y.ds y.fl y.lo y.st (freB x.fl x.nm) (freB y.fl y.nm) (hasI x.fl 2) (ifcI ps c1) (extI ps c1 a1) (ifcI ps a1) (spI ps c1 a1) _ (openI y.fl) ?_ (fun w hb=>r9meth_c (h.below hb) ht c1 c2 x hx) (fun w hb=>r9meth_c (h.below hb) ht a1 a2 y hy) (fun a n s w hb=>r9free_c _ _ _ _ _ a n s w) (fun a n s w hb=>r9free_c _ _ _ _ _ a n s w) (fun w=>has_any x.fl 2 w) (fun w hb=>?_) (fun w hb=>?_) (fun w hb=>rExtends_c (h.below hb) ht hJ c1 a1) (fun w=>rOpen3_c y.fl w) (fun w hb=>?_)
  · rw [plnB,bloB,← hS.priv hx,reaB]
    have ho:=open_cases y.fl
    generalize freB x.fl x.nm=f1 at *
    generalize freB y.fl y.nm=f2 at *
    generalize (x.nm.toList == y.nm.toList)=en at *
    generalize (x.ds.toList == y.ds.toList)=ed at *
    generalize hasI x.fl 2=p2 at *
    generalize ifcI ps c1=ic at *
    generalize (c1 == a1)=ce at *
    generalize extI ps c1 a1=ex at *
    generalize ifcI ps a1=ia at *
    generalize spI ps c1 a1=sp at *
    generalize openI y.fl=o at *
    clear eR hx hy
    cases f1
    · exact .inl (by simp)
    refine .inr ?_
    cases f2
    · exact .inl (by simp)
    refine .inr ?_
    cases en
    · exact .inl (by simp)
    refine .inr ?_
    cases ed
    · exact .inl (by simp)
    refine .inr ?_
    cases p2
    rotate_left
    · exact .inl (by simp)
    refine .inr ?_
    cases ic
    rotate_left
    · exact .inl (by simp)
    refine .inr ?_
    cases ce
    rotate_left
    · exact .inl (by simp)
    refine .inr ?_
    cases ex
    · exact .inl (by simp)
    refine .inr ?_
    cases ia <;> cases sp <;> rcases ho with rfl|rfl|rfl|rfl <;> simp
  · exact (rIsIface_c (h.below hb) c1).mono fun e w' zz=>⟨by rw [zz.1,ifcC_eq ht],zz.2⟩
  · exact (rIsIface_c (h.below hb) a1).mono fun e w' zz=>⟨by rw [zz.1,ifcC_eq ht],zz.2⟩
  · exact (rSame_c (h.below hb) hz c1 a1).mono fun e w' zz=>⟨by rw [zz.1,spC_eq ht],zz.2⟩
set_option maxHeartbeats 4000000 in
theorem r9in_c {W:World} {N:Nat} (A:List (Int×Int)) (hA:A.length≤1000000) (v:Value) (hO:W.ownsRow N 60 2 v A.length (flatD A)) (m1 m2:Int):Calls Tryz.prog 133 #[v,.agg #[.int .i64 m1,.int .i64 m2]] W fun e w'=>e=.returned (.bool (A.any fun x=>(x.1 == m1)&&(x.2 == m2)))∧Below W.heap.size W w':=by
  obtain ⟨K,hK⟩:∃ K,A.length=K:=⟨_,rfl⟩
  have HK:Hid (A.length=K):=hK
  obtain ⟨R,hR⟩:∃ R,(A.any fun x=>(x.1 == m1)&&(x.2 == m2))=R:=⟨_,rfl⟩
  have HR:Hid ((A.any fun x=>(x.1 == m1)&&(x.2 == m2))=R):=hR
  rw [hR]
  rw [hK] at hA
  obtain ⟨va,vc,rfl⟩:=ownv hO
  have HO:Hid (W.ownsRow N 60 2 (.slice va A.length vc) A.length (flatD A)):=hO
  rw [hK]
  obtain ⟨σ,V,hne,V1,V2⟩:=class_of' (fun w'=>Below (W.heap.size+1) (W.alloc (.cells #[.int .i64 m1,.int .i64 m2] 60)) w') ⟨_,Below.refl _ _⟩
  have HBV:Hid (∀ s0,Below W.heap.size W (V s0)):=fun s0=>((Below.refl _ W).alloc (Nat.le_refl _) _).trans ((V1.out s0).mono (by omega))
  have mV0:∀ s0,(V s0).cell? ⟨W.heap.size,0,none⟩=some (.int .i64 m1):=fun s0=>((V1.out s0).cell (p:=⟨W.heap.size,0,none⟩) (show W.heap.size<W.heap.size+1 by omega)).trans (by simp [go_sem])
  have mV1:∀ s0,(V s0).cell? ⟨W.heap.size,1,none⟩=some (.int .i64 m2):=fun s0=>((V1.out s0).cell (p:=⟨W.heap.size,1,none⟩) (show W.heap.size<W.heap.size+1 by omega)).trans (by simp [go_sem])
  clear hK hR hO
  go_enter Tryz.func133,Tryz.ntmps133
  go_wp2
  go_loopw [5] (fun kv wr=>∃ (j:Nat),kv=.int .i64 j∧j≤K∧Hid (((A.take j).any fun x=>(x.1 == m1)&&(x.2 == m2))=false)∧Hid (Below (W.heap.size+1) (W.alloc (.cells #[.int .i64 m1,.int .i64 m2] 60)) wr)) (fun kv _=>K - (intOf kv).toNat)
  case atStart=>exact ⟨0,rfl,Nat.zero_le _,rfl,Below.refl _ _⟩
  case round =>
    obtain ⟨j,rfl,hj,hG,hB⟩:=hrel
    by_cases hlt:j<K
    · have hjA:j<A.length:=by rw [HK.out];exact hlt
      have hjI:(j:Int)<(K:Int):=by omega
      obtain ⟨x,hx⟩:∃ x,A[j]?=some x:=⟨_,List.getElem?_eq_getElem hjA⟩
      obtain ⟨g,c2,hform⟩:=Go.Joins.ownsRow_form HO.out (by omega)
      have HROW:Hid (W.ownsRow N 60 2 (.slice (some ⟨g,0,none⟩) A.length vc) A.length (flatD A)):=by
        have hrow:=HO.out
        injection hform with hca _ _
        rw [Hid,← hca];exact hrow
      injection hform with hca _ hcc
      subst hca hcc
      obtain ⟨e0,e1,hgl⟩:=rowD_cells HROW.out hx
      replace e0:=fun s0=>((HBV.out s0).cell (p:=⟨g,j * 2,none⟩) hgl).trans e0
      replace e1:=fun s0=>((HBV.out s0).cell (p:=⟨g,j * 2+1,none⟩) hgl).trans e1
      have hst:=any_take (p:=fun x=>(x.1 == m1)&&(x.2 == m2)) hx
      rw [hG.out,Bool.false_or] at hst
      have HQ:Hid (∀ s,Calls Tryz.prog 82 #[.agg #[.int .i64 x.1,.int .i64 x.2],.agg #[.int .i64 m1,.int .i64 m2]] (V s) fun e w''=>e=.returned (.bool ((x.1 == m1)&&(x.2 == m2)))∧∃ s',w''=V s'):=fun s=>(sameID_c x (m1,m2) (V s)).mono fun e w'' zz=>⟨zz.1,V2.out _ ((V1.out s).trans (zz.2.mono (Nat.le_trans (by simp) (V1.out s).size)))⟩
      have hall:((x.1 == m1)&&(x.2 == m2))=true→R=true:=fun h=>by
        rw [← HR.out]
        exact List.any_eq_true.2 ⟨x,List.mem_of_getElem? hx,h⟩
      have HST:Hid _:=hst
      obtain ⟨x1,x2⟩:=x
      simp only at e0 e1 HQ hall HST
      generalize ((x1 == m1)&&(x2 == m2))=S at *
      clear hx hst hG hjA HROW
      go_wp2
      refine wp_region_class (C:=fun w'=>∃ s,w'=V s) (by kernel_rfl) (by kernel_rfl) (V2.out _ (hB.out.drew)) ?_
      repeat (go_big_quiet_step ((go_at_call 82;exact HQ.out _)))
      refine wpQuiet_nil ?_
      intro w9 hw9
      obtain ⟨s9,hw9⟩:=hw9
      have B9:Hid (Below (W.heap.size+1) (W.alloc (.cells #[.int .i64 m1,.int .i64 m2] 60)) w9):=by rw [hw9];exact V1.out s9
      have B8:Hid (Below W.heap.size W w9):=by rw [hw9];exact HBV.out s9
      clear hw9
      cases S
      case true =>
        obtain rfl:=hall rfl
        go_wp2
        all_goals go_ret
        all_goals exact ⟨retB (by simp),B8.out⟩
      case false =>
        go_wp2
        go_roundw
        case rel=>exact ⟨j+1,by go_num,by omega,HST.out,B9⟩
        case measure=>simp [intOf];omega
    · have e:j=K:=by omega
      subst e
      have eR:R=false:=by
        have:=hG.out
        rw [← HK.out,List.take_length] at this
        rw [← HR.out];exact this
      subst eR
      clear hG HR
      have B8:Hid (Below W.heap.size W wr):=((Below.refl _ W).alloc (Nat.le_refl _) _).trans (hB.out.mono (by omega))
      go_wp2
      all_goals go_ret
      all_goals exact ⟨retB (by simp),B8.out⟩
end Go.Proofs.YtfjekhmnjfcbeaaGreat
