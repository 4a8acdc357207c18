import Derived.Test.YtjlfnelihbdhjaaGreatLcP
import Derived.Test.YtjlfnelihbdhjaaGreatGrA
import Derived.Test.YtjlfnelihbdhjaaGreatHrP
import Derived.Test.YtjlfnelihbdhjaaGreatHrQ
import Derived.Test.YtjlfnelihbdhjaaGreatOwnX
import Derived.Test.YtjlfnelihbdhjaaGreatCurB
import Derived.Test.YtjlfnelihbdhjaaGreatTypesPure
import Derived.Test.YtjlfnelihbdhjaaGreatHrS
import Derived.Test.YtjlfnelihbdhjaaGreatHrT
import Derived.Test.YtjlfnelihbdhjaaGreatHrK
import Derived.Test.YtjlfnelihbdhjaaGreatHrY
import Derived.Test.YtjlfnelihbdhjaaGreatHrZ
import Derived.Test.YtjlfnelihbdhjaaGreatMxC
import Derived.Test.YtjlfnelihbdhjaaGreatTypesParse
import Derived.Test.YtjlfnelihbdhjaaGreatSoD
import Derived.Test.YtjlfnelihbdhjaaGreatOwnRefs
import Derived.Test.YtjlfnelihbdhjaaGreatOwnL
import Derived.Lib.Join
import GoSem.Op.String
import Derived.Deep.QuietTactic
import Derived.BigQuiet
import Derived.Deep.DeepCutAuto
import Derived.Laws.IdiomStrings
import Derived.Deep.LoopGhost
import Derived.IntWalk
import Derived.Maps.AppendAt
set_option maxRecDepth 100000
namespace Go.Proofs.YtjlfnelihbdhjaaGreat
open Go.RowKit Go.Maps
def UnqM (ps:List Plc):Prop:=∀ q∈ps,∀ (i:Nat) (m:HM),q.c.ms[i]?=some m→findH m.nm m.ds q.c.ms 0=(i:Int)
theorem find_map (nm ds:ByteArray):∀ (l:List Mth) (k:Nat),findH nm ds (l.map hmOf) k=findM nm ds l k
  | [],_=>rfl
  | m::r,k=>by
    rw [List.map_cons,findH,findM,find_map nm ds r (k+1)]
    rfl
theorem mths_find {iface:Bool} {all:List Mth}:∀ {l:List Mth} {k:Nat},mthsB iface all l k=true→∀ (i:Nat) (m:Mth),l[i]?=some m→findM m.nm m.ds all 0=((k+i:Nat):Int)
  | [],_,_,_,_,hm=>by simp at hm
  | x::r,k,h,i,m,hm=>by
    rw [mthsB,Bool.and_eq_true,Bool.and_eq_true,beq_iff_eq] at h
    cases i with
    | zero =>
      simp only [List.getElem?_cons_zero,Option.some.injEq] at hm
      subst hm
      exact h.1.2
    | succ i =>
      rw [List.getElem?_cons_succ] at hm
      have:=mths_find h.2 i m hm
      rw [this];congr 1;omega
theorem unqObj:(objMs.zipIdx.all fun p=>findH p.1.nm p.1.ds objMs 0 == (p.2:Int))=true:=by kernel_rfl
theorem unqM3:UnqM P3:=by
  intro q hq i m hm
  simp only [P3,List.mem_cons,List.not_mem_nil,or_false] at hq
  rcases hq with rfl|rfl|rfl
  · have:=List.all_eq_true.1 unqObj (m,i) (List.mem_zipIdx_iff_getElem?.2 hm)
    exact beq_iff_eq.1 this
  · simp [cloH] at hm
  · simp [serH] at hm
theorem unqM_wld (l:List Cls) (hl:∀ c∈l,ClsW c):UnqM (wld l):=by
  refine wld_ind unqM3 (fun ps c h _=>?_) l hl
  cases hd:defN ps c with
  | error e=>exact h
  | ok p =>
    obtain ⟨hB,_,_,s,l,_,_,rfl⟩:=def_ok hd
    intro q hq i m hm
    rcases List.mem_append.1 (show q∈ps++[_] from hq) with hq|hq
    · exact h q hq i m hm
    · rw [List.mem_singleton] at hq
      subst hq
      have hm2:(c.ms.map hmOf)[i]?=some m:=hm
      rw [List.getElem?_map] at hm2
      obtain ⟨m0,hm0,rfl⟩:=Option.map_eq_some_iff.1 hm2
      rw [clsB,Bool.and_eq_true] at hB
      have:=mths_find hB.2 i m0 hm0
      show findH m0.nm m0.ds (c.ms.map hmOf) 0=(i:Int)
      rw [find_map,this,Nat.zero_add]
theorem find_congr {nm ds nm2 ds2:ByteArray} (h1:nm.toList=nm2.toList) (h2:ds.toList=ds2.toList):∀ (l:List HM) (k:Nat),findH nm ds l k=findH nm2 ds2 l k
  | [],_=>rfl
  | m::r,k=>by rw [findH,findH,h1,h2,find_congr h1 h2 r (k+1)]
theorem UnqM.fnd {ps:List Plc} (h:UnqM ps) {c i:Int} {m:HM} (hm:methI ps c i=some m) {nm ds:ByteArray} (h1:m.nm.toList=nm.toList) (h2:m.ds.toList=ds.toList):fndI ps c nm ds=(i,0):=by
  obtain ⟨k,q,rfl,hq,hp,hm2⟩:=meth_plc hm
  rw [methP] at hm2
  split at hm2
  · rename_i hi
    have:=h q (List.mem_of_getElem? hq) i.toNat m hm2
    have e:findH nm ds q.c.ms 0=i:=by rw [← find_congr h1 h2,this];omega
    rw [fndI,hp]
    simp only [e]
    rw [if_neg (by omega)]
  · cases hm2
theorem extI_split {ps:List Plc} {a b:Int} (h:extI ps a b=true):∃ i j:Nat,a=(i:Int)∧b=(j:Int)∧i<ps.length∧j<ps.length∧extB (ps.map nd) i j=true:=by
  rw [extI,Bool.and_eq_true,Bool.and_eq_true] at h
  obtain ⟨⟨h1,h2⟩,h3⟩:=h
  rcases plcI_cases ps a with ⟨e,_⟩|⟨i,q,rfl,hq,_⟩
  · rw [e] at h1;cases h1
  · rcases plcI_cases ps b with ⟨e,_⟩|⟨j,r,rfl,hr,_⟩
    · rw [e] at h2;cases h2
    · exact ⟨i,j,rfl,rfl,(List.getElem?_eq_some_iff.1 hq).1,(List.getElem?_eq_some_iff.1 hr).1,h3⟩
theorem extI_tr {ps:List Plc} (hW:WI ps) {a b c:Int} (h1:extI ps a b=true) (h2:extI ps b c=true):extI ps a c=true:=by
  obtain ⟨i,j,rfl,rfl,hi,hj,e1⟩:=extI_split h1
  obtain ⟨j2,k,hjj,rfl,_,hk,e2⟩:=extI_split h2
  obtain rfl:j=j2:=by omega
  rw [extI_nat hi hk]
  exact ext_trans hW.wo (by simpa using hi) e1 e2
theorem extI_le {ps:List Plc} (hW:WI ps) {a b:Int} (h1:extI ps a b=true):b≤a:=by
  obtain ⟨i,j,rfl,rfl,hi,hj,e1⟩:=extI_split h1
  have:=ext_le hW.wo (by simpa using hi) e1
  omega
theorem extI_refl {ps:List Plc} {c i:Int} {m:HM} (h:methI ps c i=some m):extI ps c c=true:=by
  obtain ⟨k,q,rfl,hq,_,_⟩:=meth_plc h
  have:=(List.getElem?_eq_some_iff.1 hq).1
  rw [extI_nat this this]
  exact ext_self _ _
theorem pl_facts {ps:List Plc} {x y:Int×Int} (h:plI ps x y=true):∃ mx my,methI ps x.1 x.2=some mx∧methI ps y.1 y.2=some my∧mx.nm.toList=my.nm.toList∧mx.ds.toList=my.ds.toList∧stB mx.fl=false∧stB my.fl=false∧x.1≠y.1∧ifcI ps x.1=false∧extI ps x.1 y.1=true:=by
  rw [plI] at h
  cases hx:methI ps x.1 x.2 with
  | none=>rw [hx] at h;cases h
  | some mx =>
    cases hy:methI ps y.1 y.2 with
    | none=>rw [hx,hy] at h;cases h
    | some my =>
      rw [hx,hy] at h
      simp only [plnB,freB,bloB,Bool.and_eq_true,Bool.not_eq_true',beq_iff_eq,beq_eq_false_iff_ne] at h
      obtain ⟨⟨⟨⟨⟨⟨h1,h2⟩,h3⟩,h4⟩,h5⟩,_⟩,_⟩:=h
      exact ⟨mx,my,rfl,rfl,h3,h4,h1.1,h2.1,h5.1.1,h5.1.2,h5.2⟩
def OvN (ps:List Plc) (a:Int×Int):Nat→Int×Int→Prop
  | 0,x=>x=a∧stI ps a=false
  | n+1,x=>∃ y,OvN ps a n y∧plI ps x y=true
def Ov (ps:List Plc) (a x:Int×Int):Prop:=∃ n,OvN ps a n x
theorem Ov.step {ps:List Plc} {a x y:Int×Int} (h:Ov ps a y) (hp:plI ps x y=true):Ov ps a x:=by
  obtain ⟨n,hn⟩:=h
  exact ⟨n+1,y,hn,hp⟩
theorem ovN_facts {ps:List Plc} (hW:WI ps) {a:Int×Int} {ma:HM} (ha:methI ps a.1 a.2=some ma):∀ (n:Nat) (x:Int×Int),OvN ps a n x→∃ mx,methI ps x.1 x.2=some mx∧mx.nm.toList=ma.nm.toList∧mx.ds.toList=ma.ds.toList∧stB mx.fl=false∧extI ps x.1 a.1=true∧(x=a∨(ifcI ps x.1=false∧a.1<x.1))
  | 0,x,h=>by
    obtain ⟨rfl,hs⟩:=h
    refine ⟨ma,ha,rfl,rfl,?_,extI_refl ha,.inl rfl⟩
    rw [stI,ha] at hs
    exact hs
  | n+1,x,h=>by
    obtain ⟨y,hy,hp⟩:=h
    obtain ⟨my,hmy,e1,e2,_,e4,e5⟩:=ovN_facts hW ha n y hy
    obtain ⟨mx,my2,hmx,hmy2,f1,f2,f3,_,f5,f6,f7⟩:=pl_facts hp
    rw [hmy] at hmy2
    cases hmy2
    have hle:=extI_le hW f7
    have hle2:=extI_le hW e4
    exact ⟨mx,hmx,f1.trans e1,f2.trans e2,f3,extI_tr hW f7 e4,.inr ⟨f6,by omega⟩⟩
theorem gth_ov {ps:List Plc} {a:Int×Int}:∀ (l k:List (Int×Int)),(∀ y∈k,Ov ps a y)→∀ x∈l.foldl (gth1 ps a) k,Ov ps a x
  | [],_,hk,x,hx=>hk x hx
  | c::r,k,hk,x,hx=>by
    rw [List.foldl_cons] at hx
    refine gth_ov r _ (fun y hy=>?_) x hx
    rw [gth1] at hy
    split at hy
    · rename_i hc
      rcases List.mem_append.1 hy with hy|hy
      · exact hk y hy
      · rw [List.mem_singleton] at hy
        subst hy
        rw [Bool.or_eq_true] at hc
        rcases hc with hc|hc
        · rw [Bool.and_eq_true,eqI_iff] at hc
          obtain ⟨rfl,hs⟩:=hc
          exact ⟨0,rfl,by simpa using hs⟩
        · obtain ⟨z,hz,hp⟩:=List.any_eq_true.1 hc
          exact (hk z hz).step hp
    · exact hk y hy
theorem ch_desc {ns:List Nd} (h:WO ns) (a:Nat) (ha:a<ns.length):(chL ns a).Pairwise (· > ·):=by
  refine ch_ind h (P:=fun k=>(chL ns k).Pairwise (· > ·)) ?_ (fun k hk h0 hlt ih=>?_) a ha
  · rw [chL_zero];exact List.pairwise_singleton _ _
  · rw [chL_cons h hk h0]
    refine List.pairwise_cons.2 ⟨fun b hb=>?_,ih⟩
    have:=ch_le h _ (by omega) b hb
    omega
theorem nsk_mem {ps:List Plc} {nm ds:ByteArray} {a:Int}:∀ {l:List Nat} {c:Nat},c∈l→(fndI ps (c:Int) nm ds).2=0→(c:Int)≠a→((c:Int),(fndI ps (c:Int) nm ds).1)∈nskL ps nm ds a l
  | [],_,h,_,_=>by cases h
  | d::r,c,h,h1,h2=>by
    rw [nskL]
    rcases List.mem_cons.1 h with rfl|h
    · rw [if_pos ⟨h1,h2⟩];exact List.mem_cons_self
    · split
      · exact List.mem_cons_of_mem _ (nsk_mem h h1 h2)
      · exact nsk_mem h h1 h2
theorem take_lt {l:List Nat} (hl:l.Pairwise (· < ·)) {n d x:Nat} (hd:l[n]?=some d) (hx:x∈l) (hlt:x<d):x∈l.take n:=by
  obtain ⟨i,hi,rfl⟩:=List.getElem_of_mem hx
  obtain ⟨hn,rfl⟩:=List.getElem?_eq_some_iff.1 hd
  have hin:i<n:=by
    rcases Nat.lt_trichotomy i n with h|h|h
    · exact h
    · subst h;omega
    · have:=List.pairwise_iff_getElem.1 hl n i hn hi h;omega
  exact List.mem_take_iff_getElem.2 ⟨i,by omega,rfl⟩
theorem gth_all {ps:List Plc} (hW:WI ps) (hU:UnqM ps) {a:Int×Int} {ma:HM} (ha:methI ps a.1 a.2=some ma) {ck:Nat} (hck:ck<ps.length):∀ n:Nat,∀ x∈askL ps ma a ((chL (ps.map nd) ck).reverse.take n),Ov ps a x→x∈gthL ps a (askL ps ma a ((chL (ps.map nd) ck).reverse.take n)):=by
  have hckl:ck<(ps.map nd).length:=by simpa using hck
  have hasc:(chL (ps.map nd) ck).reverse.Pairwise (· < ·):=by
    rw [List.pairwise_reverse]
    exact ch_desc hW.wo ck hckl
  intro n
  induction n with
  | zero =>
    intro x hx ho
    rw [List.take_zero,askL,nskL,List.mem_singleton] at hx
    subst hx
    obtain ⟨n,hn⟩:=ho
    obtain ⟨mx,hmx,_,_,hs,_⟩:=ovN_facts hW ha n _ hn
    have hst:stI ps x=false:=by rw [stI,hmx];exact hs
    rw [List.take_zero,askL,nskL,gthL,List.foldl_cons,List.foldl_nil,gth1,hst,eqI_iff.2 rfl]
    exact List.mem_singleton.2 rfl
  | succ n ih =>
    intro x hx ho
    by_cases hn:n<(chL (ps.map nd) ck).reverse.length
    · obtain ⟨d,hd⟩:∃ d,(chL (ps.map nd) ck).reverse[n]?=some d:=⟨_,List.getElem?_eq_getElem hn⟩
      have hst:=nskL_take (ps:=ps) (nm:=ma.nm) (ds:=ma.ds) (a:=a.1) hd
      have hask:askL ps ma a ((chL (ps.map nd) ck).reverse.take (n+1))=askL ps ma a ((chL (ps.map nd) ck).reverse.take n)++(if (fndI ps (d:Int) ma.nm ma.ds).2=0∧(d:Int)≠a.1 then [((d:Int),(fndI ps (d:Int) ma.nm ma.ds).1)] else []):=by rw [askL,hst,askL,List.cons_append]
      rw [hask] at hx ⊢
      by_cases hc:(fndI ps (d:Int) ma.nm ma.ds).2=0∧(d:Int)≠a.1
      · rw [if_pos hc] at hx ⊢
        rw [gthL_snoc,gth1]
        rcases List.mem_append.1 hx with hx|hx
        · have:=ih x hx ho
          split
          · exact List.mem_append_left _ this
          · exact this
        · rw [List.mem_singleton] at hx
          subst hx
          obtain ⟨k,hk⟩:=ho
          cases k with
          | zero=>exact absurd (congrArg Prod.fst hk.1) hc.2
          | succ k =>
            obtain ⟨y,hy,hp⟩:=hk
            have hyk:y∈gthL ps a (askL ps ma a ((chL (ps.map nd) ck).reverse.take n)):=by
              refine ih y ?_ ⟨k,hy⟩
              obtain ⟨my,hmy,e1,e2,_,_,e5⟩:=ovN_facts hW ha k y hy
              rcases e5 with rfl|⟨hif,hlt⟩
              · rw [askL];exact List.mem_cons_self
              · obtain ⟨_,_,_,_,_,_,_,_,hne,_,hex⟩:=pl_facts hp
                obtain ⟨i,j,hi,hj,hil,hjl,he⟩:=extI_split hex
                obtain rfl:d=i:=by simp only at hi;omega
                have hdc:d∈chL (ps.map nd) ck:=List.mem_reverse.1 (List.mem_of_getElem? hd)
                have hjd:j∈chL (ps.map nd) d:=by
                  rcases (ext_iff _ _ _).1 he with h|h
                  · exact h
                  · exfalso
                    obtain ⟨_,_,p,hp1,hp2,_⟩:=cl_facts hW.wo h
                    rw [hj,ifcI,plcI_nat] at hif
                    rw [List.getElem?_map] at hp1
                    obtain ⟨q,hq,rfl⟩:=Option.map_eq_some_iff.1 hp1
                    rw [hq] at hif
                    have:(nd q).i=false:=hif
                    rw [this] at hp2
                    cases hp2
                have hjc:j∈chL (ps.map nd) ck:=ch_trans hW.wo ck hckl d hdc j hjd
                have hjlt:j<d:=by
                  have h1:=ch_le hW.wo d (by have:=ch_le hW.wo ck hckl d hdc;omega) j hjd
                  have h2:j≠d:=fun e=>hne (by rw [hj,e])
                  omega
                have hf:=hU.fnd hmy e1 e2
                have hyy:y=((j:Int),(fndI ps (j:Int) ma.nm ma.ds).1):=by
                  rw [hj] at hf
                  rw [hf]
                  exact Prod.ext hj rfl
                rw [askL,hyy]
                refine List.mem_cons_of_mem _ (nsk_mem (take_lt hasc hd (List.mem_reverse.2 hjc) hjlt) ?_ (by omega))
                rw [hj] at hf
                rw [hf]
            rw [if_pos (by rw [Bool.or_eq_true];exact .inr (List.any_eq_true.2 ⟨y,hyk,hp⟩))]
            exact List.mem_append_right _ (List.mem_singleton.2 rfl)
      · rw [if_neg hc,List.append_nil] at hx ⊢
        exact ih x hx ho
    · have e1:(chL (ps.map nd) ck).reverse.take (n+1)=(chL (ps.map nd) ck).reverse.take n:=by rw [List.take_of_length_le (by omega),List.take_of_length_le (by omega)]
      rw [e1] at hx ⊢
      exact ih x hx ho
theorem ovr_iff {ps:List Plc} (hW:WI ps) (hU:UnqM ps) {a c:Int×Int} {ma mc:HM} (ha:methI ps a.1 a.2=some ma) (hc:methI ps c.1 c.2=some mc):(ovrI ps c a).2=0∧((ovrI ps c a).1=true↔Ov ps a c):=by
  obtain ⟨ck,q,hck,hq,_,_⟩:=meth_plc hc
  have hlt:=(List.getElem?_eq_some_iff.1 hq).1
  have e:ovrI ps c a=((gthL ps a (askL ps ma a (chL (ps.map nd) ck).reverse)).any (eqI c),0):=by
    rw [ovrI,hc,ha]
    simp only [hck,Int.toNat_natCast]
  rw [e]
  refine ⟨rfl,?_⟩
  constructor
  · intro h
    obtain ⟨x,hx,he⟩:=List.any_eq_true.1 h
    rw [eqI_iff] at he
    subst he
    exact gth_ov _ [] (fun y hy=>by cases hy) c hx
  · intro h
    refine List.any_eq_true.2 ⟨c,?_,eqI_iff.2 rfl⟩
    have hall:=gth_all hW hU ha hlt (chL (ps.map nd) ck).reverse.length c
    rw [List.take_length] at hall
    refine hall ?_ h
    obtain ⟨n,hn⟩:=h
    obtain ⟨mx,hmx,e1,e2,_,_,e5⟩:=ovN_facts hW ha n c hn
    rcases e5 with rfl|⟨_,hlt2⟩
    · rw [askL];exact List.mem_cons_self
    · have hf:=hU.fnd hmx e1 e2
      rw [hck] at hf
      have hcc:c=((ck:Int),(fndI ps (ck:Int) ma.nm ma.ds).1):=by rw [hf];exact Prod.ext hck rfl
      rw [askL,hcc]
      refine List.mem_cons_of_mem _ (nsk_mem (List.mem_reverse.2 (chL_self _ _)) (by rw [hf]) (by omega))
def gK (ps:List Plc) (nm ds:ByteArray) (k:Nat):Int×Int:=((k:Int),(fndI ps (k:Int) nm ds).1)
theorem gK_self {ps:List Plc} (hU:UnqM ps) {a:Int×Int} {ma:HM} (ha:methI ps a.1 a.2=some ma) {nm ds:ByteArray} (h1:ma.nm.toList=nm.toList) (h2:ma.ds.toList=ds.toList):∃ k,k<ps.length∧gK ps nm ds k=a∧(fndI ps (k:Int) nm ds).2=0:=by
  obtain ⟨k,q,hk,hq,_,_⟩:=meth_plc ha
  have hf:=hU.fnd ha h1 h2
  rw [hk] at hf
  exact ⟨k,(List.getElem?_eq_some_iff.1 hq).1,by rw [gK,hf];exact Prod.ext hk.symm rfl,by rw [hf]⟩
def ovC (ps:List Plc) (nm ds:ByteArray) (a:Int×Int) (k:Nat):Bool:=decide ((fndI ps (k:Int) nm ds).2=0)&&(ovrI ps (gK ps nm ds k) a).1
theorem ov_st {ps:List Plc} {a x:Int×Int} (h:Ov ps a x):stI ps a=false:=by
  obtain ⟨n,hn⟩:=h
  induction n generalizing x with
  | zero=>exact hn.2
  | succ n ih=>obtain ⟨y,hy,_⟩:=hn;exact ih hy
theorem ovC_iff {ps:List Plc} (hW:WI ps) (hU:UnqM ps) {a:Int×Int} {ma:HM} (ha:methI ps a.1 a.2=some ma) {k:Nat}:ovC ps ma.nm ma.ds a k=true↔Ov ps a (gK ps ma.nm ma.ds k):=by
  constructor
  · intro h
    rw [ovC,Bool.and_eq_true] at h
    cases hx:methI ps (gK ps ma.nm ma.ds k).1 (gK ps ma.nm ma.ds k).2 with
    | none=>have:=h.2;simp [ovrI,hx] at this
    | some mx=>exact (ovr_iff hW hU ha hx).2.1 h.2
  · intro h
    obtain ⟨n,hn⟩:=h
    obtain ⟨mx,hmx,e1,e2,_⟩:=ovN_facts hW ha n _ hn
    have hf:=hU.fnd hmx e1 e2
    rw [ovC,Bool.and_eq_true,decide_eq_true_iff]
    refine ⟨?_,(ovr_iff hW hU ha hmx).2.2 ⟨n,hn⟩⟩
    have:(gK ps ma.nm ma.ds k).1=(k:Int):=rfl
    rw [this] at hf
    rw [hf]
theorem ov_gK {ps:List Plc} (hW:WI ps) (hU:UnqM ps) {a:Int×Int} {ma:HM} (ha:methI ps a.1 a.2=some ma) {x:Int×Int} (h:Ov ps a x):∃ k,k<ps.length∧x=gK ps ma.nm ma.ds k∧ovC ps ma.nm ma.ds a k=true∧a.1≤(k:Int):=by
  obtain ⟨n,hn⟩:=h
  obtain ⟨mx,hmx,e1,e2,_,e4,_⟩:=ovN_facts hW ha n _ hn
  obtain ⟨k,hk,e,_⟩:=gK_self hU hmx e1 e2
  refine ⟨k,hk,e.symm,(ovC_iff hW hU ha).2 (e ▸ ⟨n,hn⟩),?_⟩
  have h1:=extI_le hW e4
  have h2:(k:Int)=x.1:=by rw [← e];rfl
  omega
theorem ovC_le {ps:List Plc} (hW:WI ps) (hU:UnqM ps) {a:Int×Int} {ma:HM} (ha:methI ps a.1 a.2=some ma) {k:Nat} (h:ovC ps ma.nm ma.ds a k=true):a.1≤(k:Int)∧k<ps.length:=by
  obtain ⟨j,hj,e,_,h4⟩:=ov_gK hW hU ha ((ovC_iff hW hU ha).1 h)
  have:(k:Int)=(j:Int):=congrArg Prod.fst e
  omega
theorem gth_canon {ps:List Plc} (hW:WI ps) (hU:UnqM ps) {a:Int×Int} {ma:HM} (ha:methI ps a.1 a.2=some ma) {l:List Nat} (hasc:l.Pairwise (· < ·)) (hcl:∀ d∈l,∀ j:Nat,extI ps (d:Int) (j:Int)=true→ifcI ps (j:Int)=false→a.1<(j:Int)→j∈l):∀ n,gthL ps a (askL ps ma a (l.take n))=(if stI ps a then [] else [a])++((l.take n).filter fun k=>ovC ps ma.nm ma.ds a k&&((k:Int) != a.1)).map (gK ps ma.nm ma.ds):=by
  intro n
  induction n with
  | zero =>
    rw [List.take_zero,askL,nskL,gthL,List.foldl_cons,List.foldl_nil,gth1,eqI_iff.2 rfl]
    cases stI ps a <;> simp
  | succ n ih =>
    by_cases hn:n<l.length
    · obtain ⟨d,hd⟩:∃ d,l[n]?=some d:=⟨_,List.getElem?_eq_getElem hn⟩
      have hst:=nskL_take (ps:=ps) (nm:=ma.nm) (ds:=ma.ds) (a:=a.1) hd
      have hask:askL ps ma a (l.take (n+1))=askL ps ma a (l.take n)++(if (fndI ps (d:Int) ma.nm ma.ds).2=0∧(d:Int)≠a.1 then [gK ps ma.nm ma.ds d] else []):=by rw [askL,hst,askL,List.cons_append];rfl
      rw [hask,List.take_add_one,hd,Option.toList_some,List.filter_append,List.map_append]
      by_cases hc:(fndI ps (d:Int) ma.nm ma.ds).2=0∧(d:Int)≠a.1
      · rw [if_pos hc,gthL_snoc,gth1]
        have he:eqI (gK ps ma.nm ma.ds d) a=false:=by
          cases e:eqI (gK ps ma.nm ma.ds d) a with
          | false=>rfl
          | true=>rw [eqI_iff] at e;exact absurd (congrArg Prod.fst e) hc.2
        have hk:(gthL ps a (askL ps ma a (l.take n))).any (plI ps (gK ps ma.nm ma.ds d))=ovC ps ma.nm ma.ds a d:=by
          rw [Bool.eq_iff_iff,ovC_iff hW hU ha]
          constructor
          · intro h
            obtain ⟨y,hy,hp⟩:=List.any_eq_true.1 h
            exact (gth_ov _ [] (fun y hy=>by cases hy) y hy:Ov ps a y).step hp
          · intro h
            have hs:=ov_st h
            obtain ⟨m,hm⟩:=h
            cases m with
            | zero=>exact absurd (congrArg Prod.fst hm.1) hc.2
            | succ m =>
              obtain ⟨y,hy,hp⟩:=hm
              refine List.any_eq_true.2 ⟨y,?_,hp⟩
              obtain ⟨my,hmy,e1,e2,_,_,e5⟩:=ovN_facts hW ha m y hy
              rw [ih,hs]
              rcases e5 with rfl|⟨hif,hlt⟩
              · exact List.mem_append_left _ (List.mem_singleton.2 rfl)
              · obtain ⟨j,hj,ej,hoj,_⟩:=ov_gK hW hU ha ⟨m,hy⟩
                obtain ⟨_,_,_,_,_,_,_,_,hne,_,hex⟩:=pl_facts hp
                have hy1:y.1=(j:Int):=by rw [ej];rfl
                have hd1:(gK ps ma.nm ma.ds d).1=(d:Int):=rfl
                rw [hy1] at hif hlt hne hex
                rw [hd1] at hne hex
                have hle:=extI_le hW hex
                have hjl:=hcl d (List.mem_of_getElem? hd) j hex hif hlt
                refine List.mem_append_right _ (List.mem_map.2 ⟨j,List.mem_filter.2 ⟨take_lt hasc hd hjl (by omega),?_⟩,ej.symm⟩)
                rw [hoj,Bool.true_and,bne_iff_ne]
                omega
        rw [he,hk,Bool.false_and,Bool.false_or,ih]
        have hb:((d:Int) != a.1)=true:=by rw [bne_iff_ne];exact hc.2
        cases ho:ovC ps ma.nm ma.ds a d with
        | true=>simp [ho,hb,List.append_assoc]
        | false=>simp [ho]
      · rw [if_neg hc,List.append_nil,ih]
        have:(ovC ps ma.nm ma.ds a d&&((d:Int) != a.1))=false:=by
          rw [ovC]
          by_cases h1:(fndI ps (d:Int) ma.nm ma.ds).2=0
          · have h2:(d:Int)=a.1:=Decidable.not_not.1 fun h=>hc ⟨h1,h⟩
            rw [h2];simp
          · simp [h1]
        simp [this]
    · rw [List.take_of_length_le (by omega)] at ih ⊢
      exact ih
def allK (ps:List Plc) (nm ds:ByteArray) (a:Int×Int):List Nat:=(List.range ps.length).filter (ovC ps nm ds a)
theorem all_canon {ps:List Plc} (hW:WI ps) (hU:UnqM ps) {a:Int×Int} {ma:HM} (ha:methI ps a.1 a.2=some ma) {k:Nat} (hk:a.1=(k:Int)):gthL ps a (askL ps ma a (List.range' (k+1) (ps.length - (k+1))))=(allK ps ma.nm ma.ds a).map (gK ps ma.nm ma.ds):=by
  have hkl:k<ps.length:=by
    obtain ⟨j,q,hj,hq,_,_⟩:=meth_plc ha
    have:=(List.getElem?_eq_some_iff.1 hq).1
    omega
  have hasc:(List.range' (k+1) (ps.length - (k+1))).Pairwise (· < ·):=List.pairwise_lt_range'
  have hg:=gth_canon hW hU ha hasc (fun d hd j h1 h2 h3=>by
    have hle:=extI_le hW h1
    have hd2:=List.mem_range'_1.1 hd
    exact List.mem_range'_1.2 (by omega)) (List.range' (k+1) (ps.length - (k+1))).length
  rw [List.take_length] at hg
  rw [hg,allK]
  have hsplit:List.range ps.length=List.range k++([k]++List.range' (k+1) (ps.length - (k+1))):=by
    have e1:ps.length=k+(ps.length - (k+1)+1):=by omega
    have e2:=List.range'_append_1 (s:=0) (m:=k) (n:=ps.length - (k+1)+1)
    rw [Nat.zero_add,← e1] at e2
    rw [List.singleton_append,← List.range'_succ,List.range_eq_range',List.range_eq_range',e2]
  rw [hsplit,List.filter_append,List.filter_append,List.map_append,List.map_append]
  have h0:(List.range k).filter (ovC ps ma.nm ma.ds a)=[]:=by
    rw [List.filter_eq_nil_iff]
    intro x hx ho
    have:=(ovC_le hW hU ha ho).1
    have:=List.mem_range.1 hx
    omega
  have h1:(List.range' (k+1) (ps.length - (k+1))).filter (fun k=>ovC ps ma.nm ma.ds a k&&((k:Int) != a.1))=(List.range' (k+1) (ps.length - (k+1))).filter (ovC ps ma.nm ma.ds a):=by
    refine List.filter_congr fun x hx=>?_
    have:=(List.mem_range'_1.1 hx).1
    have:((x:Int) != a.1)=true:=by rw [bne_iff_ne];omega
    rw [this,Bool.and_true]
  rw [h0,h1,List.map_nil,List.nil_append]
  congr 1
  cases hs:stI ps a with
  | true =>
    have:ovC ps ma.nm ma.ds a k=false:=by
      cases ho:ovC ps ma.nm ma.ds a k with
      | false=>rfl
      | true=>rw [ov_st ((ovC_iff hW hU ha).1 ho)] at hs;cases hs
    simp [this]
  | false =>
    obtain ⟨j,hj,e2,hoj,_⟩:=ov_gK hW hU ha ⟨0,rfl,hs⟩
    have:(j:Int)=a.1:=by rw [e2];rfl
    obtain rfl:k=j:=by omega
    simp [hoj,← e2]
def alvE (ps:List Plc) (a:Int×Int):List (Int×Int)×Int:=match methI ps a.1 a.2 with
  | some m=>((allK ps m.nm m.ds a).map (gK ps m.nm m.ds),0)
  | none=>([],3)
theorem alvE_len {ps:List Plc} (hW:WI ps) (a:Int×Int):(alvE ps a).1.length≤300:=by
  rw [alvE]
  split
  · simp only [List.length_map,allK]
    refine Nat.le_trans (List.length_filter_le _ _) ?_
    rw [List.length_range];exact hW.hi
  · simp
set_option maxHeartbeats 4000000 in
theorem all_no {b:Nat} {ps:List Plc} {W:World} (h:WAt b ps W) (hi:WI ps) (c i:Int) (hm:methI ps c i=none):Calls Tryz.prog 25 #[.pointer (some ⟨b,0,none⟩),.agg #[.int .i64 c,.int .i64 i]] W fun e w'=>e=.returned (.tuple #[.slice none 0 0,.int .i64 3])∧Below W.heap.size W w':=by
  have HR:Hid (∀ w,Below W.heap.size W w→Calls Tryz.prog 74 #[.pointer (some ⟨b,0,none⟩),.agg #[.int .i64 c,.int .i64 i]] w fun e w'=>e=.returned (.tuple #[.agg #[.string ⟨#[]⟩,.string ⟨#[]⟩,.int .i64 0,.int .i64 0,.int .i64 0,.slice none 0 0,.int .i64 0,.int .i64 0,.pointer none],.int .i64 3])∧Below w.heap.size w w'):=fun w hb=>by
    have:=read_c (h.below hb) hi c i
    rw [hm] at this
    exact this
  clear h hi hm
  go_enter Tryz.func25,Tryz.ntmps25
  go_wp2_with (go_at_call 74;refine (HR.out _ (by repeat (first|exact Below.refl _ _|refine Below.setCell ?_ (by simp;try omega) _|refine Below.alloc ?_ (by simp;try omega) _|refine Below.drew ?_))).mono ?_;rintro e w1 ⟨rfl,hb⟩;have B1:Hid (Below W.heap.size W w1):=bstep (by repeat (first|exact Below.refl _ _|refine Below.setCell ?_ (by simp;try omega) _|refine Below.alloc ?_ (by simp;try omega) _|refine Below.drew ?_)) hb;clear hb HR)
  exact bodyPost_ret (results_tmp2 rfl _ _ _) rfl ⟨rfl,(by repeat (first|refine Below.setCell ?_ (by simp;try omega) _|refine Below.alloc ?_ (by have:=B1.out.size;simp;try omega) _|refine Below.drew ?_|exact B1.out))⟩
set_option maxHeartbeats 8000000 in
theorem all_yes {b:Nat} {ps:List Plc} {W:World} (h:WAt b ps W) (hi:WI ps) (k:Nat) (hk:k<ps.length) (i:Int) (m:HM) (hm:methI ps (k:Int) i=some m) (G:List (Int×Int)) (hG:gthL ps ((k:Int),i) (askL ps m ((k:Int),i) (List.range' (k+1) (ps.length - (k+1))))=G):Calls Tryz.prog 25 #[.pointer (some ⟨b,0,none⟩),.agg #[.int .i64 (k:Int),.int .i64 i]] W fun e w'=>(∃ v,e=.returned (.tuple #[v,.int .i64 0])∧w'.ownsRow W.heap.size 24 2 v G.length (flatD G))∧Below W.heap.size W w':=by
  obtain ⟨i0,hi0,hz0,hz1,hz2⟩:=info_parts Tryz.hinfo3
  obtain ⟨j0,hj0,hy0,hy1,hy2⟩:=info_parts Tryz.hinfoD
  have hP3:=hi.hi
  have hGb:G.length≤301:=by
    rw [← hG]
    refine Nat.le_trans (gthL_len _ _ _) ?_
    have:=nskL_len ps m.nm m.ds ((k:Int),i).1 (List.range' (k+1) (ps.length - (k+1)))
    rw [List.length_range'] at this
    rw [askL,List.length_cons]
    omega
  have HR:Hid (∀ w,Below W.heap.size W w→Calls Tryz.prog 74 #[.pointer (some ⟨b,0,none⟩),.agg #[.int .i64 (k:Int),.int .i64 i]] w fun e w'=>(∃ ma mk mo,e=.returned (.tuple #[.agg #[.string m.nm,.string m.ds,.int .i64 m.fl,.int .i64 m.lo,.int .i64 m.st,.slice ma mk mo,.int .i64 (k:Int),.int .i64 i,.pointer (some ⟨b,0,none⟩)],.int .i64 0]))∧Below w.heap.size w w'):=fun w hb=>by
    have:=read_c (h.below hb) hi (k:Int) i
    rw [hm] at this
    exact this
  have HLn:Hid (∀ w,Below W.heap.size W w→Calls Tryz.prog 28 #[.pointer (some ⟨b,0,none⟩)] w fun e w'=>e=.returned (.int .i64 (ps.length:Int))∧w'=w):=fun w hb=>len_c (h.below hb)
  have HG:Hid (∀ w (x:P9) (v:Value),Below W.heap.size W w→OkP ps x→x.id=((k:Int),i)→(x.nm,x.ds,x.c)=(m.nm,m.ds,(k:Int))→Rds w v (ps.length - (k+1)) 1 ((List.range' (k+1) (ps.length - (k+1))).map numV)→Calls Tryz.prog 70 #[x.agg b,v] w fun e w'=>∃ (L:List P9) (g cap:Nat),e=.returned (.slice (some ⟨g,0,none⟩) L.length cap)∧(∀ y∈L,OkP ps y)∧L.map P9.id=G∧w'.ownsRow w.heap.size 93 9 (.slice (some ⟨g,0,none⟩) L.length cap) L.length (flat9 b L)∧Below w.heap.size w w'):=fun w x v hb ho hid hnd hv=>by
    have:=gth_c (h.below hb) hi x ho v (List.range' (k+1) (ps.length - (k+1))) (by rw [List.length_range'];exact hv) (by rw [List.length_range'];omega)
    simp only [Prod.mk.injEq] at hnd
    rw [hid,hnd.1,hnd.2.1,hnd.2.2] at this
    rw [askL] at hG
    rw [hG] at this
    exact this
  have HM:Hid (methI ps (k:Int) i=some m):=hm
  generalize ps.length=P at *
  clear h hi hm hG
  simp only [P9.agg] at HG
  go_enter Tryz.func25,Tryz.ntmps25
  go_wp2_with (go_at_call 74;refine (HR.out _ (by repeat (first|exact Below.refl _ _|refine Below.setCell ?_ (by simp;try omega) _|refine Below.alloc ?_ (by simp;try omega) _|refine Below.drew ?_))).mono ?_;rintro e w1 ⟨⟨ma,mk,mo,rfl⟩,hb⟩;have abd:=kp2 (n:=W.heap.size) hb (by simp) (halloc1 _ _);obtain ⟨abB,ab0,ab1,abf,abL,abN⟩:=abd;have B1:Hid (Below W.heap.size W w1):=bstep (by repeat (first|exact Below.refl _ _|refine Below.setCell ?_ (by simp;try omega) _|refine Below.alloc ?_ (by simp;try omega) _|refine Below.drew ?_)) hb;clear hb HR)
  obtain ⟨U,hU⟩:∃ U,U=w1.alloc (.cells #[.string m.nm,.string m.ds,.int .i64 m.fl,.int .i64 m.lo,.int .i64 m.st,.slice ma mk mo,.int .i64 (k:Int),.int .i64 i,.pointer (some ⟨b,0,none⟩)] 93):=⟨_,rfl⟩
  have BU:Hid (Below W.heap.size W U):=by rw [hU];exact B1.out.alloc B1.out.size _
  have HX:Hid (U.heap[w1.heap.size]?=some (.cells #[.string m.nm,.string m.ds,.int .i64 m.fl,.int .i64 m.lo,.int .i64 m.st,.slice ma mk mo,.int .i64 (k:Int),.int .i64 i,.pointer (some ⟨b,0,none⟩)] 93 (0,0))):=by rw [hU];exact halloc1 _ _
  have hxl:w1.heap.size<U.heap.size:=by rw [hU];simp
  rw [← hU]
  clear hU abB ab0 ab1 abf abL abN
  go_loopw [8,9] (fun sv kv wr=>∃ n:Nat,kv=.int .i64 ((k+1+n:Nat):Int)∧k+1+n≤P∧Hid (wr.ownsRow U.heap.size 3 1 sv n ((List.range' (k+1) n).map numV))∧Hid (Below U.heap.size U wr)) (fun _ kv _=>P - (intOf kv).toNat)
  case atStart=>exact ⟨0,by go_num,by omega,World.ownsRow_nil _ _ _ _,Below.refl _ _⟩
  case round =>
    obtain ⟨n,rfl,hn,hO,hB⟩:=hrel
    have BWr:Hid (Below W.heap.size W wr):=BU.out.trans (hB.out.mono BU.out.size)
    obtain ⟨va,vn,rfl⟩:=ownv hO.out
    have HL1:Hid (Calls Tryz.prog 28 #[.pointer (some ⟨b,0,none⟩)] wr fun e w'=>e=.returned (.int .i64 (P:Int))∧w'=wr):=HLn.out wr BWr.out
    by_cases hlt:k+1+n<P
    · have hltI:((k+1+n:Nat):Int)<(P:Int):=by omega
      have hst:(List.range' (k+1) (n+1)).map numV=(List.range' (k+1) n).map numV++[numV (k+1+n)]:=by rw [List.range'_1_concat,List.map_append];rfl
      have HST:Hid _:=hst
      obtain ⟨c,hc⟩:∃ c,c=k+1+n:=⟨_,rfl⟩
      rw [← hc] at hltI HST ⊢
      have HC:Hid (c=k+1+n):=hc
      have hc3:c≤300:=by omega
      have hn3:n≤300:=by omega
      generalize (List.range' (k+1) n).map numV=X at *
      clear hst hc
      go_wp2_with (first
        | (go_at_call 28;refine HL1.out.mono ?_;rintro e w9 ⟨rfl,hw9⟩;rw [hw9];clear hw9 w9 HL1)
        | (at_builtin;refine wpList_append_own _ rfl _ _ 99 rfl U.heap.size 3 i0 (.int .i64 0) 1 8 Tryz.underlying99 hi0 hz0 hz1 hz2 rfl (by decide) (.slice va n vn) n X rfl (hO.out.alloc _) ⟨wr.heap.size,0,none⟩ 1 1 [.int .i64 (c:Int)] rfl rfl ?c1 ?c2 ?c3 ?c4 ?c5 ?_))
      case c1=>intro jj u hj;rw [addr_add];cases jj with
        | zero=>simp at hj;subst hj;simp [go_sem]
        | succ jj=>simp at hj
      case c2=>intro u hu;simp at hu;subst hu;rfl
      case c3=>unfold maxLen;omega
      case c4=>omega
      case c5=>have:=hB.out.size;simp;omega
      intro v' w2 hown hgrow _
      obtain ⟨va2,vn2,rfl⟩:=ownv hown
      have B2:Hid (Below U.heap.size U w2):=by
        have hb1:Below U.heap.size U (wr.alloc (.cells #[.int .i64 (c:Int)] 3)):=hB.out.alloc hB.out.size _
        refine hb1.grown hgrow hb1.size (fun x hx=>?_)
        have:=(hO.out.lt x hx).1
        omega
      have O2:Hid (w2.ownsRow U.heap.size 3 1 (.slice va2 (n+1) vn2) (n+1) ((List.range' (k+1) (n+1)).map numV)):=by
        rw [Hid,HST.out];exact hown
      clear hown hgrow
      go_wp2
      go_roundw
      case rel=>exact ⟨n+1,by rw [HC.out];go_num,by have:=HC.out;omega,O2,B2⟩
      case measure=>have:=HC.out;simp [intOf];omega
    · have en:n=P - (k+1):=by omega
      have hltI:¬ ((k+1+n:Nat):Int)<(P:Int):=by omega
      have D1:Hid (Rds wr (.slice va n vn) (P - (k+1)) 1 ((List.range' (k+1) (P - (k+1))).map numV)):=by rw [Hid,← en];exact own_rds hO.out
      obtain ⟨p0,p1,p2,p3,p4,p5,p6,p7,p8,pL⟩:=row9 ((hB.out.block w1.heap.size hxl).trans HX.out)
      have EN:Hid (n=P - (k+1)):=en
      clear en
      go_wp2_with (first
        | (go_at_call 28;refine HL1.out.mono ?_;rintro e w9 ⟨rfl,hw9⟩;rw [hw9];clear hw9 w9 HL1)
        | (go_at_call 70;refine (HG.out wr ⟨m.nm,m.ds,m.fl,m.lo,m.st,ma,mk,mo,(k:Int),i⟩ (.slice va n vn) BWr.out ⟨m,HM.out,rfl,rfl,rfl⟩ rfl rfl D1.out).mono ?_;rintro e w4 ⟨L,g,cap,rfl,hok,hid,ho,hb⟩;have ID4:Hid (L.map P9.id=G):=hid;have O4:Hid (w4.ownsRow wr.heap.size 93 9 (.slice (some ⟨g,0,none⟩) L.length cap) L.length (flat9 b L)):=ho;have B4:Hid (Below W.heap.size W w4):=bstep BWr.out hb;clear hb ho hok hid HG))
      clear p0 p1 p2 p3 p4 p5 p6 p7 p8 pL
      obtain ⟨T,hT⟩:∃ T,L.length=T:=⟨_,rfl⟩
      have HT:Hid (L.length=T):=hT
      have HGT:Hid (G.length=T):=by rw [Hid,← ID4.out,List.length_map];exact hT
      have hT3:T≤301:=by rw [← HGT.out];exact hGb
      rw [hT] at O4 ⊢
      clear hT
      go_loopw [10,39] (fun sv kv wr=>∃ j:Nat,kv=.int .i64 j∧j≤T∧Hid (wr.ownsRow w4.heap.size 24 2 sv j (flatD (G.take j)))∧Hid (Below w4.heap.size w4 wr)) (fun _ kv _=>T - (intOf kv).toNat)
      case atStart=>exact ⟨0,rfl,Nat.zero_le _,World.ownsRow_nil _ _ _ _,Below.refl _ _⟩
      case round =>
        obtain ⟨j,rfl,hj,hOj,hBj⟩:=hrel
        obtain ⟨xa,xc,rfl⟩:=ownv hOj.out
        by_cases hlj:j<T
        · have hjI:(j:Int)<(T:Int):=by omega
          obtain ⟨y,hy⟩:∃ y,L[j]?=some y:=⟨_,List.getElem?_eq_getElem (by rw [HT.out];exact hlj)⟩
          have hgy:G[j]?=some y.id:=by rw [← ID4.out,List.getElem?_map,hy];rfl
          have HTK:Hid (flatD (G.take (j+1))=flatD (G.take j)++[.int .i64 y.c,.int .i64 y.i]):=by
            rw [Hid,List.take_add_one,hgy,Option.toList_some,flatD_app];rfl
          obtain ⟨e0,e1,e2,e3,e4,e5,e6,e7,e8,gL⟩:=row9_cells (rowBelow O4.out hBj.out) hy
          obtain ⟨yn,yd,yf,yl,ys,ya,yk,yo,yc,yi⟩:=y
          simp only at e0 e1 e2 e3 e4 e5 e6 e7 e8 HTK
          generalize flatD (G.take j)=X at hOj HTK
          clear hy hgy
          go_wp2_with (at_builtin;refine wpList_append_own _ rfl _ _ 39 rfl w4.heap.size 24 j0 (.agg #[.int .i64 0,.int .i64 0]) 2 16 Tryz.underlying39 hj0 hy0 hy1 hy2 rfl (by decide) (.slice xa j xc) j X rfl ((hOj.out.alloc _).alloc _) ⟨wr.heap.size+1,0,none⟩ 1 1 [.int .i64 yc,.int .i64 yi] rfl rfl ?c1 ?c2 ?c3 ?c4 ?c5 ?_)
          case c1=>intro jj u hj;rw [addr_add];match jj,hj with
            | 0,hj=>simp at hj;subst hj;simp [go_sem]
            | 1,hj=>simp at hj;subst hj;simp [go_sem]
            | (jj+2),hj=>simp at hj
          case c2=>intro u hu;simp at hu;rcases hu with rfl|rfl <;> rfl
          case c3=>unfold maxLen;omega
          case c4=>omega
          case c5=>have:=hBj.out.size;simp;omega
          intro v' w6 hown hgrow _
          obtain ⟨va2,vn2,rfl⟩:=ownv hown
          have B6:Hid (Below w4.heap.size w4 w6):=by
            refine Below.grown (w:=(wr.alloc (.cells #[.string yn,.string yd,.int .i64 yf,.int .i64 yl,.int .i64 ys,.slice ya yk yo,.int .i64 yc,.int .i64 yi,.pointer (some ⟨b,0,none⟩)] 93)).alloc (.cells #[.int .i64 yc,.int .i64 yi] 24)) ?_ hgrow ?_ (fun x hx=>?_)
            · exact (hBj.out.alloc hBj.out.size _).alloc (by have:=hBj.out.size;simp;omega) _
            · have:=hBj.out.size;simp;omega
            · have:=(hOj.out.lt x hx).1
              omega
          have O6:Hid (w6.ownsRow w4.heap.size 24 2 (.slice va2 (j+1) vn2) (j+1) (flatD (G.take (j+1)))):=by
            rw [Hid,HTK.out];exact hown
          clear hown hgrow
          go_wp2
          go_roundw
          case rel=>exact ⟨j+1,by go_num,by omega,O6,B6⟩
          case measure=>simp [intOf];omega
        · have e:j=T:=by omega
          subst e
          have O9:Hid (wr.ownsRow W.heap.size 24 2 (.slice xa j xc) G.length (flatD G)):=by
            have:=hOj.out
            rw [List.take_of_length_le (by rw [HGT.out];exact Nat.le_refl _)] at this
            rw [Hid,HGT.out]
            exact Go.Joins.ownsRow_le this B4.out.size
          go_wp2
          exact bodyPost_ret (results_tmp2 rfl _ _ _) rfl ⟨⟨_,rfl,O9.out⟩,B4.out.trans (hBj.out.mono B4.out.size)⟩
end Go.Proofs.YtjlfnelihbdhjaaGreat
