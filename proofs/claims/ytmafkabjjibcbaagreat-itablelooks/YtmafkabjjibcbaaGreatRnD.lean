import Derived.Test.YtmafkabjjibcbaaGreatLcQ
set_option maxHeartbeats 16000000
set_option maxRecDepth 100000
namespace Go.Proofs.YtmafkabjjibcbaaGreat
open Go.RowKit Go.Maps
def UnqM (ps:List Plc):Prop:=∀ q∈ps,∀ (i:Nat) (m:HM),q.c.ms[i]?=some m→Z8 m.nm m.ds q.c.ms 0=(i:Int)
theorem Zig (nm ds:ByteArray):∀ (l:List Mth) (k:Nat),Z8 nm ds (l.map hmOf) k=Yk nm ds l k
 | [],_=>rfl
 | m::r,k=>by
   rw [List.map_cons,Z8,Yk,Zig nm ds r (k+1)]
   rfl
theorem Zfs {iface:Bool} {all:List Mth}:∀ {l:List Mth} {k:Nat},Yz iface all l k=true→∀ (i:Nat) (m:Mth),l[i]?=some m→Yk m.nm m.ds all 0=((k+i:Nat):Int)
 | [],_,_,_,_,hm=>by simp at hm
 | x::r,k,h,i,m,hm=>by
   rw [Yz,Bool.and_eq_true,Bool.and_eq_true,beq_iff_eq] at h
   cases i with
   | zero =>
     simp only [List.getElem?_cons_zero,Option.some.injEq] at hm
     subst hm
     exact h.1.2
   | succ i =>
     rw [List.getElem?_cons_succ] at hm
     have:=Zfs h.2 i m hm
     rw [this];congr 1;omega
theorem unqObj:(objMs.zipIdx.all fun p=>Z8 p.1.nm p.1.ds objMs 0 == (p.2:Int))=true:=by kernel_rfl
theorem unqM3:UnqM P3:=by
 intro q hq i m hm
 simp only [P3,List.mem_cons,List.not_mem_nil,or_false] at hq
 rcases hq with rfl|rfl|rfl
 ·have:=List.all_eq_true.1 unqObj (m,i) (List.mem_zipIdx_iff_getElem?.2 hm)
  exact beq_iff_eq.1 this
 ·simp [cloH] at hm
 ·simp [serH] at hm
theorem unqM_wld (l:List Cls) (hl:∀ c∈l,ClsW c):UnqM (wld l):=by
 refine Zae unqM3 (fun ps c h _=>?_) l hl
 cases hd:defN ps c with
 | error e=>exact h
 | ok p =>
   obtain ⟨hB,_,_,s,l,_,_,rfl⟩:=Zcd hd
   intro q hq i m hm
   rcases List.mem_append.1 (show q∈ps++[_] from hq) with hq|hq
   ·exact h q hq i m hm
   ·rw [List.mem_singleton] at hq
    subst hq
    have hm2:(c.ms.map hmOf)[i]?=some m:=hm
    rw [List.getElem?_map] at hm2
    obtain ⟨m0,hm0,rfl⟩:=Option.map_eq_some_iff.1 hm2
    rw [clsB,Bool.and_eq_true] at hB
    have:=Zfs hB.2 i m0 hm0
    show Z8 m0.nm m0.ds (c.ms.map hmOf) 0=(i:Int)
    rw [Zig,this,Nat.zero_add]
theorem find_congr {nm ds nm2 ds2:ByteArray} (h1:nm.toList=nm2.toList) (h2:ds.toList=ds2.toList):∀ (l:List HM) (k:Nat),Z8 nm ds l k=Z8 nm2 ds2 l k
 | [],_=>rfl
 | m::r,k=>by rw [Z8,Z8,h1,h2,find_congr h1 h2 r (k+1)]
theorem UnqM.fnd {ps:List Plc} (h:UnqM ps) {c i:Int} {m:HM} (hm:Zm ps c i=some m) {nm ds:ByteArray} (h1:m.nm.toList=nm.toList) (h2:m.ds.toList=ds.toList):fndI ps c nm ds=(i,0):=by
 obtain ⟨k,q,rfl,hq,hp,hm2⟩:=Yl hm
 rw [Y2] at hm2
 split at hm2
 ·rename_i hi
  have:=h q (List.mem_of_getElem? hq) i.toNat m hm2
  have e:Z8 nm ds q.c.ms 0=i:=by rw [← find_congr h1 h2,this];omega
  rw [fndI,hp]
  simp only [e]
  rw [if_neg (by omega)]
 ·cases hm2
theorem X0 {ps:List Plc} {a b:Int} (h:extI ps a b=true):∃ i j:Nat,a=(i:Int)∧b=(j:Int)∧i<ps.length∧j<ps.length∧extB (ps.map nd) i j=true:=by
 rw [extI,Bool.and_eq_true,Bool.and_eq_true] at h
 obtain ⟨⟨h1,h2⟩,h3⟩:=h
 rcases Zl ps a with ⟨e,_⟩|⟨i,q,rfl,hq,_⟩
 ·rw [e] at h1;cases h1
 ·rcases Zl ps b with ⟨e,_⟩|⟨j,r,rfl,hr,_⟩
  ·rw [e] at h2;cases h2
  ·exact ⟨i,j,rfl,rfl,(List.getElem?_eq_some_iff.1 hq).1,(List.getElem?_eq_some_iff.1 hr).1,h3⟩
theorem extI_tr {ps:List Plc} (hW:WI ps) {a b c:Int} (h1:extI ps a b=true) (h2:extI ps b c=true):extI ps a c=true:=by
 obtain ⟨i,j,rfl,rfl,hi,hj,e1⟩:=X0 h1
 obtain ⟨j2,k,hjj,rfl,_,hk,e2⟩:=X0 h2
 obtain rfl:j=j2:=by omega
 rw [Zeu hi hk]
 exact Zl1 hW.wo (by simpa using hi) e1 e2
theorem Zev {ps:List Plc} (hW:WI ps) {a b:Int} (h1:extI ps a b=true):b≤a:=by
 obtain ⟨i,j,rfl,rfl,hi,hj,e1⟩:=X0 h1
 have:=ext_le hW.wo (by simpa using hi) e1
 omega
theorem Zl2 {ps:List Plc} {c i:Int} {m:HM} (h:Zm ps c i=some m):extI ps c c=true:=by
 obtain ⟨k,q,rfl,hq,_,_⟩:=Yl h
 have:=(List.getElem?_eq_some_iff.1 hq).1
 rw [Zeu this this]
 exact ext_self _ _
theorem Zbe {ps:List Plc} {x y:Int×Int} (h:plI ps x y=true):∃ mx my,Zm ps x.1 x.2=some mx∧Zm ps y.1 y.2=some my∧mx.nm.toList=my.nm.toList∧mx.ds.toList=my.ds.toList∧stB mx.fl=false∧stB my.fl=false∧x.1≠y.1∧ifcI ps x.1=false∧extI ps x.1 y.1=true:=by
 rw [plI] at h
 cases hx:Zm ps x.1 x.2 with
 | none=>rw [hx] at h;cases h
 | some mx =>
   cases hy:Zm ps y.1 y.2 with
   | none=>rw [hx,hy] at h;cases h
   | some my =>
     rw [hx,hy] at h
     simp only [plnB,freB,bloB,Bool.and_eq_true,Bool.not_eq_true',beq_iff_eq,beq_eq_false_iff_ne] at h
     obtain ⟨⟨⟨⟨⟨⟨h1,h2⟩,h3⟩,h4⟩,h5⟩,_⟩,_⟩:=h
     exact ⟨mx,my,rfl,rfl,h3,h4,h1.1,h2.1,h5.1.1,h5.1.2,h5.2⟩
def OvN (ps:List Plc) (a:Int×Int):Nat→Int×Int→Prop
 | 0,x=>x=a∧stI ps a=false
 | n+1,x=>∃ y,OvN ps a n y∧plI ps x y=true
def Ov (ps:List Plc) (a x:Int×Int):Prop:=∃ n,OvN ps a n x
theorem Ov.step {ps:List Plc} {a x y:Int×Int} (h:Ov ps a y) (hp:plI ps x y=true):Ov ps a x:=by
 obtain ⟨n,hn⟩:=h
 exact ⟨n+1,y,hn,hp⟩
theorem Ym {ps:List Plc} (hW:WI ps) {a:Int×Int} {ma:HM} (ha:Zm ps a.1 a.2=some ma):∀ (n:Nat) (x:Int×Int),OvN ps a n x→∃ mx,Zm ps x.1 x.2=some mx∧mx.nm.toList=ma.nm.toList∧mx.ds.toList=ma.ds.toList∧stB mx.fl=false∧extI ps x.1 a.1=true∧(x=a∨(ifcI ps x.1=false∧a.1<x.1))
 | 0,x,h=>by
   obtain ⟨rfl,hs⟩:=h
   refine ⟨ma,ha,rfl,rfl,?_,Zl2 ha,.inl rfl⟩
   rw [stI,ha] at hs
   exact hs
 | n+1,x,h=>by
   obtain ⟨y,hy,hp⟩:=h
   obtain ⟨my,hmy,e1,e2,_,e4,e5⟩:=Ym hW ha n y hy
   obtain ⟨mx,my2,hmx,hmy2,f1,f2,f3,_,f5,f6,f7⟩:=Zbe hp
   rw [hmy] at hmy2
   cases hmy2
   have hle:=Zev hW f7
   have hle2:=Zev hW e4
   exact ⟨mx,hmx,f1.trans e1,f2.trans e2,f3,extI_tr hW f7 e4,.inr ⟨f6,by omega⟩⟩
theorem Zlk {ps:List Plc} {a:Int×Int}:∀ (l k:List (Int×Int)),(∀ y∈k,Ov ps a y)→∀ x∈l.foldl (gth1 ps a) k,Ov ps a x
 | [],_,hk,x,hx=>hk x hx
 | c::r,k,hk,x,hx=>by
   rw [List.foldl_cons] at hx
   refine Zlk r _ (fun y hy=>?_) x hx
   rw [gth1] at hy
   split at hy
   ·rename_i hc
    rcases List.mem_append.1 hy with hy|hy
    ·exact hk y hy
    ·rw [List.mem_singleton] at hy
     subst hy
     rw [Bool.or_eq_true] at hc
     rcases hc with hc|hc
     ·rw [Bool.and_eq_true,Zaw] at hc
      obtain ⟨rfl,hs⟩:=hc
      exact ⟨0,rfl,by simpa using hs⟩
     ·obtain ⟨z,hz,hp⟩:=List.any_eq_true.1 hc
      exact (hk z hz).step hp
   ·exact hk y hy
theorem Zmg {ns:List Nd} (h:WO ns) (a:Nat) (ha:a<ns.length):(chL ns a).Pairwise (· > ·):=by
 refine Zce h (P:=fun k=>(chL ns k).Pairwise (· > ·)) ?_ (fun k hk h0 hlt ih=>?_) a ha
 ·rw [Yo];exact List.pairwise_singleton _ _
 ·rw [Yp h hk h0]
  refine List.pairwise_cons.2 ⟨fun b hb=>?_,ih⟩
  have:=Zjq h _ (by omega) b hb
  omega
theorem Zd6 {ps:List Plc} {nm ds:ByteArray} {a:Int}:∀ {l:List Nat} {c:Nat},c∈l→(fndI ps (c:Int) nm ds).2=0→(c:Int)≠a→((c:Int),(fndI ps (c:Int) nm ds).1)∈nskL ps nm ds a l
 | [],_,h,_,_=>by cases h
 | d::r,c,h,h1,h2=>by
   rw [nskL]
   rcases List.mem_cons.1 h with rfl|h
   ·rw [if_pos ⟨h1,h2⟩];exact List.mem_cons_self
   ·split
    ·exact List.mem_cons_of_mem _ (Zd6 h h1 h2)
    ·exact Zd6 h h1 h2
theorem Zj4 {l:List Nat} (hl:l.Pairwise (· < ·)) {n d x:Nat} (hd:l[n]?=some d) (hx:x∈l) (hlt:x<d):x∈l.take n:=by
 obtain ⟨i,hi,rfl⟩:=List.getElem_of_mem hx
 obtain ⟨hn,rfl⟩:=List.getElem?_eq_some_iff.1 hd
 have hin:i<n:=by
  rcases Nat.lt_trichotomy i n with h|h|h
  ·exact h
  ·subst h;omega
  ·have:=List.pairwise_iff_getElem.1 hl n i hn hi h;omega
 exact List.mem_take_iff_getElem.2 ⟨i,by omega,rfl⟩
theorem gth_all {ps:List Plc} (hW:WI ps) (hU:UnqM ps) {a:Int×Int} {ma:HM} (ha:Zm ps a.1 a.2=some ma) {ck:Nat} (hck:ck<ps.length):∀ n:Nat,∀ x∈askL ps ma a ((chL (ps.map nd) ck).reverse.take n),Ov ps a x→x∈gthL ps a (askL ps ma a ((chL (ps.map nd) ck).reverse.take n)):=by
 have hckl:ck<(ps.map nd).length:=by simpa using hck
 have hasc:(chL (ps.map nd) ck).reverse.Pairwise (· < ·):=by
  rw [List.pairwise_reverse]
  exact Zmg hW.wo ck hckl
 intro n
 induction n with
 | zero =>
   intro x hx ho
   rw [List.take_zero,askL,nskL,List.mem_singleton] at hx
   subst hx
   obtain ⟨n,hn⟩:=ho
   obtain ⟨mx,hmx,_,_,hs,_⟩:=Ym hW ha n _ hn
   have hst:stI ps x=false:=by rw [stI,hmx];exact hs
   rw [List.take_zero,askL,nskL,gthL,List.foldl_cons,List.foldl_nil,gth1,hst,Zaw.2 rfl]
   exact List.mem_singleton.2 rfl
 | succ n ih =>
   intro x hx ho
   by_cases hn:n<(chL (ps.map nd) ck).reverse.length
   ·obtain ⟨d,hd⟩:∃ d,(chL (ps.map nd) ck).reverse[n]?=some d:=⟨_,List.getElem?_eq_getElem hn⟩
    have hst:=Zb2 (ps:=ps) (nm:=ma.nm) (ds:=ma.ds) (a:=a.1) hd
    have hask:askL ps ma a ((chL (ps.map nd) ck).reverse.take (n+1))=askL ps ma a ((chL (ps.map nd) ck).reverse.take n)++(if (fndI ps (d:Int) ma.nm ma.ds).2=0∧(d:Int)≠a.1 then [((d:Int),(fndI ps (d:Int) ma.nm ma.ds).1)] else []):=by rw [askL,hst,askL,List.cons_append]
    rw [hask] at hx ⊢
    by_cases hc:(fndI ps (d:Int) ma.nm ma.ds).2=0∧(d:Int)≠a.1
    ·rw [if_pos hc] at hx ⊢
     rw [Zb6,gth1]
     rcases List.mem_append.1 hx with hx|hx
     ·have:=ih x hx ho
      split
      ·exact List.mem_append_left _ this
      ·exact this
     ·rw [List.mem_singleton] at hx
      subst hx
      obtain ⟨k,hk⟩:=ho
      cases k with
      | zero=>exact absurd (congrArg Prod.fst hk.1) hc.2
      | succ k =>
        obtain ⟨y,hy,hp⟩:=hk
        have hyk:y∈gthL ps a (askL ps ma a ((chL (ps.map nd) ck).reverse.take n)):=by
         refine ih y ?_ ⟨k,hy⟩
         obtain ⟨my,hmy,e1,e2,_,_,e5⟩:=Ym hW ha k y hy
         rcases e5 with rfl|⟨hif,hlt⟩
         ·rw [askL];exact List.mem_cons_self
         ·obtain ⟨_,_,_,_,_,_,_,_,hne,_,hex⟩:=Zbe hp
          obtain ⟨i,j,hi,hj,hil,hjl,he⟩:=X0 hex
          obtain rfl:d=i:=by simp only at hi;omega
          have hdc:d∈chL (ps.map nd) ck:=List.mem_reverse.1 (List.mem_of_getElem? hd)
          have hjd:j∈chL (ps.map nd) d:=by
           rcases (Zav _ _ _).1 he with h|h
           ·exact h
           ·exfalso
            obtain ⟨_,_,p,hp1,hp2,_⟩:=Yh hW.wo h
            rw [hj,ifcI,Z5] at hif
            rw [List.getElem?_map] at hp1
            obtain ⟨q,hq,rfl⟩:=Option.map_eq_some_iff.1 hp1
            rw [hq] at hif
            have:(nd q).i=false:=hif
            rw [this] at hp2
            cases hp2
          have hjc:j∈chL (ps.map nd) ck:=Zex hW.wo ck hckl d hdc j hjd
          have hjlt:j<d:=by
           have h1:=Zjq hW.wo d (by have:=Zjq hW.wo ck hckl d hdc;omega) j hjd
           have h2:j≠d:=fun e=>hne (by rw [hj,e])
           omega
          have hf:=hU.fnd hmy e1 e2
          have hyy:y=((j:Int),(fndI ps (j:Int) ma.nm ma.ds).1):=by
           rw [hj] at hf
           rw [hf]
           exact Prod.ext hj rfl
          rw [askL,hyy]
          refine List.mem_cons_of_mem _ (Zd6 (Zj4 hasc hd (List.mem_reverse.2 hjc) hjlt) ?_ (by omega))
          rw [hj] at hf
          rw [hf]
        rw [if_pos (by rw [Bool.or_eq_true];exact .inr (List.any_eq_true.2 ⟨y,hyk,hp⟩))]
        exact List.mem_append_right _ (List.mem_singleton.2 rfl)
    ·rw [if_neg hc,List.append_nil] at hx ⊢
     exact ih x hx ho
   ·have e1:(chL (ps.map nd) ck).reverse.take (n+1)=(chL (ps.map nd) ck).reverse.take n:=by rw [List.take_of_length_le (by omega),List.take_of_length_le (by omega)]
    rw [e1] at hx ⊢
    exact ih x hx ho
theorem Zk3 {ps:List Plc} (hW:WI ps) (hU:UnqM ps) {a c:Int×Int} {ma mc:HM} (ha:Zm ps a.1 a.2=some ma) (hc:Zm ps c.1 c.2=some mc):(ovrI ps c a).2=0∧((ovrI ps c a).1=true↔Ov ps a c):=by
 obtain ⟨ck,q,hck,hq,_,_⟩:=Yl hc
 have hlt:=(List.getElem?_eq_some_iff.1 hq).1
 have e:ovrI ps c a=((gthL ps a (askL ps ma a (chL (ps.map nd) ck).reverse)).any (eqI c),0):=by
  rw [ovrI,hc,ha]
  simp only [hck,Int.toNat_natCast]
 rw [e]
 refine ⟨rfl,?_⟩
 constructor
 ·intro h
  obtain ⟨x,hx,he⟩:=List.any_eq_true.1 h
  rw [Zaw] at he
  subst he
  exact Zlk _ [] (fun y hy=>by cases hy) c hx
 ·intro h
  refine List.any_eq_true.2 ⟨c,?_,Zaw.2 rfl⟩
  have hall:=gth_all hW hU ha hlt (chL (ps.map nd) ck).reverse.length c
  rw [List.take_length] at hall
  refine hall ?_ h
  obtain ⟨n,hn⟩:=h
  obtain ⟨mx,hmx,e1,e2,_,_,e5⟩:=Ym hW ha n c hn
  rcases e5 with rfl|⟨_,hlt2⟩
  ·rw [askL];exact List.mem_cons_self
  ·have hf:=hU.fnd hmx e1 e2
   rw [hck] at hf
   have hcc:c=((ck:Int),(fndI ps (ck:Int) ma.nm ma.ds).1):=by rw [hf];exact Prod.ext hck rfl
   rw [askL,hcc]
   refine List.mem_cons_of_mem _ (Zd6 (List.mem_reverse.2 (Zey _ _)) (by rw [hf]) (by omega))
theorem Jq {b:Nat} {cs:List Cls} {ps:List Plc} {W:World} (h:RAt b cs W) (ht:TwW cs ps) (c i:Int) (x:HM) (hx:Zm ps c i=some x):Calls Tryz.prog 188 #[.pointer (some ⟨b,0,none⟩),.agg #[.int .i64 c,.int .i64 i]] W fun e w'=>(∃ a n s,e=.returned (.agg #[.string x.nm,.string x.ds,.int .i64 x.fl,.int .i64 x.lo,.int .i64 x.st,.slice a n s]))∧Bw W w':=by
 obtain ⟨k,q,rfl,hq,_,_⟩:=Yl hx
 obtain ⟨g,cap,bk,n,cm,j,ac,cc,rfl,b0,hlt,hgl,hkI,c5,hbk,hjn,e0,e1,e2,e3,e4,e5,_,_,_⟩:=h.meth ht hx
 clear h ht hx hq
 have hB:Bw W ((W.alloc (.cells #[.int .i64 (k:Int),.int .i64 (j:Int)] 38)).alloc (.cells #[.string ⟨#[]⟩,.string ⟨#[]⟩,.int .i64 0,.int .i64 0,.int .i64 0,.slice none 0 0] 87)):=((Below.refl _ W).alloc (Nat.le_refl _) _).alloc (by simp) _
 have hA:((W.alloc (.cells #[.int .i64 (k:Int),.int .i64 (j:Int)] 38)).alloc (.cells #[.string ⟨#[]⟩,.string ⟨#[]⟩,.int .i64 0,.int .i64 0,.int .i64 0,.slice none 0 0] 87)).heap[W.heap.size]?=some (.cells #[.int .i64 (k:Int),.int .i64 (j:Int)] 38 (0,0)):=Zg (Zo _ _)
 have hZ:((W.alloc (.cells #[.int .i64 (k:Int),.int .i64 (j:Int)] 38)).alloc (.cells #[.string ⟨#[]⟩,.string ⟨#[]⟩,.int .i64 0,.int .i64 0,.int .i64 0,.slice none 0 0] 87)).heap[W.heap.size+1]?=some (.cells #[.string ⟨#[]⟩,.string ⟨#[]⟩,.int .i64 0,.int .i64 0,.int .i64 0,.slice none 0 0] 87 (0,0)):=Za _ _ (by simp)
 replace b0:=(hB.cell (p:=⟨b,0,none⟩) hlt).trans b0
 replace c5:=(hB.cell (p:=⟨g,k * 6+5,none⟩) hgl).trans c5
 replace e0:=(hB.cell (p:=⟨bk,j * 6,none⟩) hbk).trans e0
 replace e1:=(hB.cell (p:=⟨bk,j * 6+1,none⟩) hbk).trans e1
 replace e2:=(hB.cell (p:=⟨bk,j * 6+2,none⟩) hbk).trans e2
 replace e3:=(hB.cell (p:=⟨bk,j * 6+3,none⟩) hbk).trans e3
 replace e4:=(hB.cell (p:=⟨bk,j * 6+4,none⟩) hbk).trans e4
 replace e5:=(hB.cell (p:=⟨bk,j * 6+5,none⟩) hbk).trans e5
 obtain ⟨a0,a1,af,aL⟩:=rw2 hA
 obtain ⟨z0,z1,z2,z3,z4,z5,zf,zL⟩:=rw6 hZ
 have HBH:Hid _:=hB
 have y1:¬ bk=W.heap.size+1:=by omega
 have y2:¬ g=W.heap.size+1:=by omega
 have y3:¬ b=W.heap.size+1:=by omega
 clear hA hZ hB
 go_enter Tryz.func188,Tryz.ntmps188
 go_wp2
 generalize ((W.alloc (.cells #[.int .i64 (k:Int),.int .i64 (j:Int)] 38)).alloc (.cells #[.string ⟨#[]⟩,.string ⟨#[]⟩,.int .i64 0,.int .i64 0,.int .i64 0,.slice none 0 0] 87))=U at *
 go_region
 go_wp2
 refine bodyPost_ret (v:=.agg #[.string x.nm,.string x.ds,.int .i64 x.fl,.int .i64 x.lo,.int .i64 x.st,.slice ac x.n cc]) (by simp [results,Tryz.results188,go_sem, *]) rfl ⟨⟨_,_,_,rfl⟩,?_⟩
 repeat (first|refine Below.setCell ?_ (by simp;try omega) _|refine Below.drew ?_|exact HBH.out)
theorem Zh0 (nm ds:ByteArray) (fl lo st:Int) (a:Option Addr) (n s:Nat) (W:World):Calls Tryz.prog 236 #[.agg #[.string nm,.string ds,.int .i64 fl,.int .i64 lo,.int .i64 st,.slice a n s]] W fun e w'=>e=.returned (.bool (freB fl nm))∧Bw W w':=by
 have HF:Hid (∀ w:World,Calls Tryz.prog 62 #[.int .i64 fl,.int .i64 8] w fun e w'=>e=.returned (.bool (hasI fl 8))∧w'=w):=Zv fl 8
 have e:freB fl nm=(!hasI fl 8&&!(nm.toList == [60,105,110,105,116,62])):=rfl
 rw [e]
 generalize hasI fl 8=F at *
 cases F
 all_goals
  go_enter Tryz.func236,Tryz.ntmps236
  go_wp2_with (go_at_call 62;refine (HF.out _).mono ?_;rintro e w9 ⟨rfl,hw9⟩;rw [hw9];clear hw9 w9)
 all_goals go_ret
 all_goals exact ⟨retB (by simp),sqR⟩
theorem r9is_no {b:Nat} {cs:List Cls} {ps:List Plc} {W:World} (h:RAt b cs W) (ht:TwW cs ps) (c i:Int) (hm:plcI ps c=none):Calls Tryz.prog 63 #[.pointer (some ⟨b,0,none⟩),.agg #[.int .i64 c,.int .i64 i]] W fun e w'=>e=.returned (.bool false)∧Bw W w':=by
 obtain ⟨σ,V,hne,V1,V2⟩:=class_of' (fun w'=>Below (W.heap.size+1) (W.alloc (.cells #[.int .i64 c,.int .i64 i] 38)) w') ⟨_,Below.refl _ _⟩
 have hBV:∀ s0,Bw W (V s0):=fun s0=>((Below.refl _ W).alloc (Nat.le_refl _) _).trans ((V1.out s0).mono (by omega))
 have HI:Hid (∀ s0,Calls Tryz.prog 68 #[.pointer (some ⟨b,0,none⟩),.int .i64 c] (V s0) fun e w''=>e=.returned (.bool false)∧∃ s',w''=V s'):=fun s0=>(Zbt (h.below (hBV s0)) ht c).mono fun e w'' zz=>⟨by rw [zz.1,hm];rfl,s0,zz.2⟩
 have m0:∀ s0,(V s0).cell? ⟨W.heap.size,0,none⟩=some (.int .i64 c):=fun s0=>((V1.out s0).cell (p:=⟨W.heap.size,0,none⟩) (show W.heap.size<W.heap.size+1 by omega)).trans (by simp [go_sem])
 have HBV:Hid (∀ s0,Bw W (V s0)):=hBV
 have VD:Hid (∃ s1,(W.alloc (.cells #[.int .i64 c,.int .i64 i] 38)).drew=V s1):=V2.out _ ((Below.refl _ _).drew)
 clear h ht hm hBV V1 V2
 go_enter Tryz.func63,Tryz.ntmps63
 go_wp2
 refine Ze (C:=fun w'=>∃ s0,w'=V s0) (by kernel_rfl) (by kernel_rfl) VD.out ?_
 repeat (go_big_quiet_step ((go_at_call 68;exact HI.out _)))
 refine wpQuiet_nil ?_
 intro w9 hw9
 obtain ⟨s9,rfl⟩:=hw9
 go_wp2
 exact bodyPost_ret (results_tmp rfl _ _ _) rfl ⟨rfl,HBV.out s9⟩
theorem r9is_yes {b:Nat} {cs:List Cls} {ps:List Plc} {W:World} (h:RAt b cs W) (ht:TwW cs ps) (k:Nat) (q:Plc) (hq:ps[k]?=some q) (i:Int):Calls Tryz.prog 63 #[.pointer (some ⟨b,0,none⟩),.agg #[.int .i64 (k:Int),.int .i64 i]] W fun e w'=>e=.returned (.bool (Y2 q i).isSome)∧Bw W w':=by
 obtain ⟨c0,hc,hcq⟩:=ht.tw.at' hq
 obtain ⟨c,hcI⟩:∃ c:Int,c=(k:Int):=⟨_,rfl⟩
 rw [← hcI]
 obtain ⟨σ,V,hne,V1,V2⟩:=class_of' (fun w'=>Below (W.heap.size+1) (W.alloc (.cells #[.int .i64 c,.int .i64 i] 38)) w') ⟨_,Below.refl _ _⟩
 have hBV:∀ s0,Bw W (V s0):=fun s0=>((Below.refl _ W).alloc (Nat.le_refl _) _).trans ((V1.out s0).mono (by omega))
 have HI:Hid (∀ s0,Calls Tryz.prog 68 #[.pointer (some ⟨b,0,none⟩),.int .i64 c] (V s0) fun e w''=>e=.returned (.bool true)∧∃ s',w''=V s'):=fun s0=>(Zbt (h.below (hBV s0)) ht c).mono fun e w'' zz=>⟨by rw [zz.1,hcI,Z5,hq];rfl,s0,zz.2⟩
 have m0:∀ s0,(V s0).cell? ⟨W.heap.size,0,none⟩=some (.int .i64 c):=fun s0=>((V1.out s0).cell (p:=⟨W.heap.size,0,none⟩) (show W.heap.size<W.heap.size+1 by omega)).trans (by simp [go_sem])
 have m1:∀ s0,(V s0).cell? ⟨W.heap.size,1,none⟩=some (.int .i64 i):=fun s0=>((V1.out s0).cell (p:=⟨W.heap.size,1,none⟩) (show W.heap.size<W.heap.size+1 by omega)).trans (by simp [go_sem])
 have HBV:Hid (∀ s0,Bw W (V s0)):=hBV
 have VD:Hid (∃ s1,(W.alloc (.cells #[.int .i64 c,.int .i64 i] 38)).drew=V s1):=V2.out _ ((Below.refl _ _).drew)
 obtain ⟨g,cap,vi,vm,b0,hlt,hgl,_,_,_,_,_,c5,_,hMs⟩:=RAt.cells h hc
 obtain ⟨am,cm,rfl⟩:=Xy hMs
 have kp:∀ (s0:σ) (bb j:Nat) (v:Value),bb<W.heap.size→W.cell? ⟨bb,j,none⟩=some v→(V s0).cell? ⟨bb,j,none⟩=some v:=fun s0 bb j v hl h=>((hBV s0).cell (p:=⟨bb,j,none⟩) hl).trans h
 replace b0:=fun s0=>kp s0 _ _ _ hlt b0
 replace c5:=fun s0=>kp s0 _ _ _ hgl c5
 have hkI:(k:Int)<(cs.length:Int):=by have:=(List.getElem?_eq_some_iff.1 hc).1;omega
 have hlen:q.c.ms.length=c0.ms.length:=by rw [hcq];simp [hcOf]
 have hml:(i<0∧(Y2 q i).isSome=false)∨(0≤i∧(c0.ms.length:Int)≤i∧(Y2 q i).isSome=false)∨(0≤i∧i<(c0.ms.length:Int)∧(Y2 q i).isSome=true):=by
  rcases Int.lt_or_le i 0 with h0|h0
  ·exact .inl ⟨h0,by rw [Y2,if_neg (by omega)];rfl⟩
  ·rcases Int.lt_or_le i (c0.ms.length:Int) with h1|h1
   ·exact .inr (.inr ⟨h0,h1,by rw [Y2,if_pos h0,List.getElem?_eq_getElem (by omega)];rfl⟩)
   ·exact .inr (.inl ⟨h0,h1,by rw [Y2,if_pos h0,List.getElem?_eq_none (by omega)];rfl⟩)
 generalize c0.ms.length=n at *
 generalize (Y2 q i).isSome=R at *
 subst hcI
 clear h ht hBV V1 V2 kp hMs hq hc hcq hlen
 have hml2:(R=false∧decide (0≤i)=false)∨(R=false∧decide (0≤i)=true∧decide (i<(n:Int))=false)∨(R=true∧decide (0≤i)=true∧decide (i<(n:Int))=true):=by
  rcases hml with ⟨h0,h1⟩|⟨h0,h1,h2⟩|⟨h0,h1,h2⟩
  ·exact .inl ⟨h1,by simpa using h0⟩
  ·exact .inr (.inl ⟨h2,by simpa using h0,by simpa using h1⟩)
  ·exact .inr (.inr ⟨h2,by simpa using h0,by simpa using h1⟩)
 clear hml
 rcases hml2 with ⟨rfl,hi1⟩|⟨rfl,hi1,hi2⟩|⟨rfl,hi1,hi2⟩
 all_goals
  go_enter Tryz.func63,Tryz.ntmps63
  go_wp2
  refine Ze (C:=fun w'=>∃ s0,w'=V s0) (by kernel_rfl) (by kernel_rfl) VD.out ?_
  repeat (go_big_quiet_step ((go_at_call 68;exact HI.out _)))
  refine wpQuiet_nil ?_
  intro w9 hw9
  obtain ⟨s9,rfl⟩:=hw9
  go_wp2
  exact bodyPost_ret (results_tmp rfl _ _ _) rfl ⟨by simp [*],HBV.out s9⟩
theorem Zcz {b:Nat} {cs:List Cls} {ps:List Plc} {W:World} (h:RAt b cs W) (ht:TwW cs ps) (c i:Int):Calls Tryz.prog 63 #[.pointer (some ⟨b,0,none⟩),.agg #[.int .i64 c,.int .i64 i]] W fun e w'=>e=.returned (.bool (Zm ps c i).isSome)∧Bw W w':=by
 rcases Zl ps c with ⟨h1,_⟩|⟨k,q,rfl,h2,h1⟩
 ·have e:(Zm ps c i).isSome=false:=by rw [Zm,h1];rfl
  rw [e];exact r9is_no h ht c i h1
 ·have e:Zm ps (k:Int) i=Y2 q i:=by rw [Zm,h1];rfl
  rw [e];exact r9is_yes h ht k q h2 i
theorem spC_eq {cs:List Cls} {ps:List Plc} (ht:TwW cs ps) (a b:Int):spC cs a b=spI ps a b:=by
 unfold spC spI
 rcases ht.tw.clsI a with ⟨h1,h2⟩|⟨k,c,q,rfl,hc,hq,hcq,h1,h2⟩
 ·rw [h1,h2]
 ·rw [h1,h2]
  rcases ht.tw.clsI b with ⟨g1,g2⟩|⟨k',c',q',rfl,hc',hq',hcq',g1,g2⟩
  ·rw [g1,g2]
  ·rw [g1,g2]
   show togB c c'=Zaz q q'
   unfold togB Zaz
   rw [hcq,hcq'];rfl
theorem Zar {cs:List Cls} {ps:List Plc} (ht:TwW cs ps) (a:Int):ifcC cs a=ifcI ps a:=by
 unfold ifcC ifcI
 rcases ht.tw.clsI a with ⟨h1,h2⟩|⟨k,c,q,rfl,hc,hq,hcq,h1,h2⟩
 ·rw [h1,h2]
 ·rw [h1,h2]
  simp only
  rw [hcq];rfl
theorem rOpen3_c (f:Int) (W:World):Calls Tryz.prog 215 #[.int .i64 f] W fun e w'=>e=.returned (.int .i64 (Y6 f))∧w'=W:=by
 have H1:Hid (∀ (z:Int) (w:World),z=1→Calls Tryz.prog 62 #[.int .i64 f,.int .i64 z] w fun e w'=>e=.returned (.bool (hasI f 1))∧w'=w):=fun z w hz=>by rw [hz];exact Zv f 1 w
 have H4:Hid (∀ (z:Int) (w:World),z=4→Calls Tryz.prog 62 #[.int .i64 f,.int .i64 z] w fun e w'=>e=.returned (.bool (hasI f 4))∧w'=w):=fun z w hz=>by rw [hz];exact Zv f 4 w
 have H2:Hid (∀ (z:Int) (w:World),z=2→Calls Tryz.prog 62 #[.int .i64 f,.int .i64 z] w fun e w'=>e=.returned (.bool (hasI f 2))∧w'=w):=fun z w hz=>by rw [hz];exact Zv f 2 w
 unfold Y6
 generalize hasI f 1=a1 at *
 generalize hasI f 4=a4 at *
 generalize hasI f 2=a2 at *
 cases a1 <;> cases a4 <;> cases a2
 all_goals
  go_enter Tryz.func215,Tryz.ntmps215
  go_wp2_with (first
   | (go_at_call 62;refine (H1.out _ _ (by rfl)).mono ?_;rintro e w9 ⟨rfl,hw9⟩;rw [hw9];clear hw9 w9)
   | (go_at_call 62;refine (H4.out _ _ (by rfl)).mono ?_;rintro e w9 ⟨rfl,hw9⟩;rw [hw9];clear hw9 w9)
   | (go_at_call 62;refine (H2.out _ _ (by rfl)).mono ?_;rintro e w9 ⟨rfl,hw9⟩;rw [hw9];clear hw9 w9))
  exact bodyPost_ret (results_tmp rfl _ _ _) rfl ⟨rfl,rfl⟩
def SndI (ps:List Plc):Prop:=∀ q∈ps,∀ m∈q.c.ms,∃ n,chkM m.fl (ifB q.c.fl) n=0
theorem sndI3:SndI P3:=by
 intro q hq m hm
 simp only [P3,List.mem_cons,List.not_mem_nil,or_false] at hq
 rcases hq with rfl|rfl|rfl
 ·simp only [objH,objMs,List.mem_cons,List.not_mem_nil,or_false] at hm
  rcases hm with rfl|rfl|rfl <;> exact ⟨false,by decide⟩
 ·simp only [cloH,List.not_mem_nil] at hm
 ·simp only [serH,List.not_mem_nil] at hm
theorem sndI_wld (l:List Cls) (hl:∀ c∈l,ClsW c):SndI (wld l):=by
 refine Zae sndI3 (fun ps c h _=>?_) l hl
 cases hd:defN ps c with
 | error e=>exact h
 | ok p =>
   obtain ⟨hB,_,_,s,l,_,_,rfl⟩:=Zcd hd
   intro q hq m hm
   rcases List.mem_append.1 (show q∈ps++[_] from hq) with hq|hq
   ·exact h q hq m hm
   ·rw [List.mem_singleton] at hq
    subst hq
    obtain ⟨m0,hm0,rfl⟩:=List.mem_map.1 (show m∈c.ms.map hmOf from hm)
    rw [clsB,Bool.and_eq_true] at hB
    have hmb:=Zc4 hB.2 m0 hm0
    simp only [mthB,Bool.and_eq_true,beq_iff_eq] at hmb
    exact ⟨_,hmb.1.1.1.2⟩
theorem Ze3 {ps:List Plc} {nm ds:ByteArray}:∀ {l:List Nat} {b:Int×Int},uppI ps nm ds l=(b,true)→∃ i∈l,b.1=(i:Int)∧FndF ps nm ds b∧hasS ps b.1 b.2 8=false
 | [],b,h=>by simp [uppI] at h
 | i::r,b,h=>by
   rw [uppI] at h
   split at h
   ·rename_i hh
    simp only [Prod.mk.injEq,and_true] at h
    subst h
    exact ⟨i,List.mem_cons_self,rfl,(J5 hh.1).1,hh.2⟩
   ·obtain ⟨j,hj,h2⟩:=Ze3 h
    exact ⟨j,List.mem_cons_of_mem _ hj,h2⟩
theorem r9pw (W:World) (b:Nat) (c1 c2 a1 a2:Int) (xn xd:ByteArray) (xf xl xs:Int) (yn yd:ByteArray) (yf yl ys:Int) (f1 f2 p2 ic ex ia sp R:Bool) (o:Int)
 (hR:(f1=false∧R=false)∨(f1=true∧f2=false∧R=false)∨(f1=true∧f2=true∧(xn.toList == yn.toList)=false∧R=false)∨(f1=true∧f2=true∧(xn.toList == yn.toList)=true∧(xd.toList == yd.toList)=false∧R=false)∨(f1=true∧f2=true∧(xn.toList == yn.toList)=true∧(xd.toList == yd.toList)=true∧p2=true∧R=false)∨(f1=true∧f2=true∧(xn.toList == yn.toList)=true∧(xd.toList == yd.toList)=true∧p2=false∧ic=true∧R=false)∨(f1=true∧f2=true∧(xn.toList == yn.toList)=true∧(xd.toList == yd.toList)=true∧p2=false∧ic=false∧(c1 == a1)=true∧R=false)∨(f1=true∧f2=true∧(xn.toList == yn.toList)=true∧(xd.toList == yd.toList)=true∧p2=false∧ic=false∧(c1 == a1)=false∧ex=false∧R=false)∨(f1=true∧f2=true∧(xn.toList == yn.toList)=true∧(xd.toList == yd.toList)=true∧p2=false∧ic=false∧(c1 == a1)=false∧ex=true∧ia=true∧o=2∧R=false)∨(f1=true∧f2=true∧(xn.toList == yn.toList)=true∧(xd.toList == yd.toList)=true∧p2=false∧ic=false∧(c1 == a1)=false∧ex=true∧ia=true∧o=1∧R=true)∨(f1=true∧f2=true∧(xn.toList == yn.toList)=true∧(xd.toList == yd.toList)=true∧p2=false∧ic=false∧(c1 == a1)=false∧ex=true∧ia=true∧o=4∧R=true)∨(f1=true∧f2=true∧(xn.toList == yn.toList)=true∧(xd.toList == yd.toList)=true∧p2=false∧ic=false∧(c1 == a1)=false∧ex=true∧ia=true∧o=0∧R=true)∨(f1=true∧f2=true∧(xn.toList == yn.toList)=true∧(xd.toList == yd.toList)=true∧p2=false∧ic=false∧(c1 == a1)=false∧ex=true∧ia=false∧o=1∧R=true)∨(f1=true∧f2=true∧(xn.toList == yn.toList)=true∧(xd.toList == yd.toList)=true∧p2=false∧ic=false∧(c1 == a1)=false∧ex=true∧ia=false∧o=4∧R=true)∨(f1=true∧f2=true∧(xn.toList == yn.toList)=true∧(xd.toList == yd.toList)=true∧p2=false∧ic=false∧(c1 == a1)=false∧ex=true∧ia=false∧o=2∧R=false)∨(f1=true∧f2=true∧(xn.toList == yn.toList)=true∧(xd.toList == yd.toList)=true∧p2=false∧ic=false∧(c1 == a1)=false∧ex=true∧ia=false∧o=0∧sp=true∧R=true)∨(f1=true∧f2=true∧(xn.toList == yn.toList)=true∧(xd.toList == yd.toList)=true∧p2=false∧ic=false∧(c1 == a1)=false∧ex=true∧ia=false∧o=0∧sp=false∧R=false))
 (HM1:Hid (∀ w,Bw W w→Calls Tryz.prog 188 #[.pointer (some ⟨b,0,none⟩),.agg #[.int .i64 c1,.int .i64 c2]] w fun e w'=>(∃ a n s,e=.returned (.agg #[.string xn,.string xd,.int .i64 xf,.int .i64 xl,.int .i64 xs,.slice a n s]))∧Bw w w'))
 (HM2:Hid (∀ w,Bw W w→Calls Tryz.prog 188 #[.pointer (some ⟨b,0,none⟩),.agg #[.int .i64 a1,.int .i64 a2]] w fun e w'=>(∃ a n s,e=.returned (.agg #[.string yn,.string yd,.int .i64 yf,.int .i64 yl,.int .i64 ys,.slice a n s]))∧Bw w w'))
 (HF1:Hid (∀ a n s w,Bw W w→Calls Tryz.prog 236 #[.agg #[.string xn,.string xd,.int .i64 xf,.int .i64 xl,.int .i64 xs,.slice a n s]] w fun e w'=>(e=.returned (.bool f1))∧Bw w w'))
 (HF2:Hid (∀ a n s w,Bw W w→Calls Tryz.prog 236 #[.agg #[.string yn,.string yd,.int .i64 yf,.int .i64 yl,.int .i64 ys,.slice a n s]] w fun e w'=>(e=.returned (.bool f2))∧Bw w w'))
 (HH:Hid (∀ w,Calls Tryz.prog 62 #[.int .i64 xf,.int .i64 2] w fun e w'=>(e=.returned (.bool p2))∧w'=w))
 (HI1:Hid (∀ w,Bw W w→Calls Tryz.prog 61 #[.pointer (some ⟨b,0,none⟩),.int .i64 c1] w fun e w'=>(e=.returned (.bool ic))∧w'=w))
 (HI2:Hid (∀ w,Bw W w→Calls Tryz.prog 61 #[.pointer (some ⟨b,0,none⟩),.int .i64 a1] w fun e w'=>(e=.returned (.bool ia))∧w'=w))
 (HE:Hid (∀ w,Bw W w→Calls Tryz.prog 84 #[.pointer (some ⟨b,0,none⟩),.int .i64 c1,.int .i64 a1] w fun e w'=>(e=.returned (.bool ex))∧Bw w w'))
 (HO:Hid (∀ w,Calls Tryz.prog 215 #[.int .i64 yf] w fun e w'=>(e=.returned (.int .i64 o))∧w'=w))
 (HS:Hid (∀ w,Bw W w→Calls Tryz.prog 214 #[.pointer (some ⟨b,0,none⟩),.int .i64 c1,.int .i64 a1] w fun e w'=>(e=.returned (.bool sp))∧Bw w w')):Calls Tryz.prog 191 #[.pointer (some ⟨b,0,none⟩),.agg #[.int .i64 c1,.int .i64 c2],.agg #[.int .i64 a1,.int .i64 a2]] W fun e w'=>e=.returned (.bool R)∧Bw W w':=by
 have BB:Hid (Bw W W):=Below.refl _ _
 rcases hR with ⟨rfl,rfl⟩|⟨rfl,rfl,rfl⟩|⟨rfl,rfl,hen,rfl⟩|⟨rfl,rfl,hen,hed,rfl⟩|⟨rfl,rfl,hen,hed,rfl,rfl⟩|⟨rfl,rfl,hen,hed,rfl,rfl,rfl⟩|⟨rfl,rfl,hen,hed,rfl,rfl,hce,rfl⟩|⟨rfl,rfl,hen,hed,rfl,rfl,hce,rfl,rfl⟩|⟨rfl,rfl,hen,hed,rfl,rfl,hce,rfl,rfl,rfl,rfl⟩|⟨rfl,rfl,hen,hed,rfl,rfl,hce,rfl,rfl,rfl,rfl⟩|⟨rfl,rfl,hen,hed,rfl,rfl,hce,rfl,rfl,rfl,rfl⟩|⟨rfl,rfl,hen,hed,rfl,rfl,hce,rfl,rfl,rfl,rfl⟩|⟨rfl,rfl,hen,hed,rfl,rfl,hce,rfl,rfl,rfl,rfl⟩|⟨rfl,rfl,hen,hed,rfl,rfl,hce,rfl,rfl,rfl,rfl⟩|⟨rfl,rfl,hen,hed,rfl,rfl,hce,rfl,rfl,rfl,rfl⟩|⟨rfl,rfl,hen,hed,rfl,rfl,hce,rfl,rfl,rfl,rfl,rfl⟩|⟨rfl,rfl,hen,hed,rfl,rfl,hce,rfl,rfl,rfl,rfl,rfl⟩
 all_goals
  go_enter Tryz.func191,Tryz.ntmps191
  go_wp2_with (first
   | (go_at_call 188;refine (HM1.out _ (sqE BB)).mono ?_;rintro e w1 ⟨⟨xa,xk,xo,rfl⟩,hb⟩;have cbd:=kp2 (n:=W.heap.size) hb;(try clear cbB cb0 cb1 cbf cbL cbN);obtain ⟨cbB,cb0,cb1,cbf,cbL,cbN⟩:=cbd;have abd:=kp2 (n:=W.heap.size+1) hb;(try clear abB ab0 ab1 abf abL abN);obtain ⟨abB,ab0,ab1,abf,abL,abN⟩:=abd;have BB2:Bw W w1:=Zb (sqE BB) hb;clear BB;have BB:Hid (Bw W w1):=BB2;clear HM1;clear BB2 hb)
   | (go_at_call 188;refine (HM2.out _ (sqE BB)).mono ?_;rintro e w2 ⟨⟨ya,yk,yo,rfl⟩,hb⟩;have cbd:=kp2 (n:=W.heap.size) hb;(try clear cbB cb0 cb1 cbf cbL cbN);obtain ⟨cbB,cb0,cb1,cbf,cbL,cbN⟩:=cbd;have abd:=kp2 (n:=W.heap.size+1) hb;(try clear abB ab0 ab1 abf abL abN);obtain ⟨abB,ab0,ab1,abf,abL,abN⟩:=abd;have mxd:=kp6 (n:=w1.heap.size) hb;(try clear mxB mx0 mx1 mx2 mx3 mx4 mx5 mxf mxL mxN);obtain ⟨mxB,mx0,mx1,mx2,mx3,mx4,mx5,mxf,mxL,mxN⟩:=mxd;have BB2:Bw W w2:=Zb (sqE BB) hb;clear BB;have BB:Hid (Bw W w2):=BB2;clear HM2;clear BB2 hb)
   | (go_at_call 236;refine (HF1.out _ _ _ _ (sqE BB)).mono ?_;rintro e w3 ⟨rfl,hb⟩;have cbd:=kp2 (n:=W.heap.size) hb;(try clear cbB cb0 cb1 cbf cbL cbN);obtain ⟨cbB,cb0,cb1,cbf,cbL,cbN⟩:=cbd;have abd:=kp2 (n:=W.heap.size+1) hb;(try clear abB ab0 ab1 abf abL abN);obtain ⟨abB,ab0,ab1,abf,abL,abN⟩:=abd;have mxd:=kp6 (n:=w1.heap.size) hb;(try clear mxB mx0 mx1 mx2 mx3 mx4 mx5 mxf mxL mxN);obtain ⟨mxB,mx0,mx1,mx2,mx3,mx4,mx5,mxf,mxL,mxN⟩:=mxd;have myd:=kp6 (n:=w2.heap.size) hb;(try clear myB my0 my1 my2 my3 my4 my5 myf myL myN);obtain ⟨myB,my0,my1,my2,my3,my4,my5,myf,myL,myN⟩:=myd;have BB2:Bw W w3:=Zb (sqE BB) hb;clear BB;have BB:Hid (Bw W w3):=BB2;clear HF1;clear BB2 hb)
   | (go_at_call 236;refine (HF2.out _ _ _ _ (sqE BB)).mono ?_;rintro e w4 ⟨rfl,hb⟩;have cbd:=kp2 (n:=W.heap.size) hb;(try clear cbB cb0 cb1 cbf cbL cbN);obtain ⟨cbB,cb0,cb1,cbf,cbL,cbN⟩:=cbd;have abd:=kp2 (n:=W.heap.size+1) hb;(try clear abB ab0 ab1 abf abL abN);obtain ⟨abB,ab0,ab1,abf,abL,abN⟩:=abd;have mxd:=kp6 (n:=w1.heap.size) hb;(try clear mxB mx0 mx1 mx2 mx3 mx4 mx5 mxf mxL mxN);obtain ⟨mxB,mx0,mx1,mx2,mx3,mx4,mx5,mxf,mxL,mxN⟩:=mxd;have myd:=kp6 (n:=w2.heap.size) hb;(try clear myB my0 my1 my2 my3 my4 my5 myf myL myN);obtain ⟨myB,my0,my1,my2,my3,my4,my5,myf,myL,myN⟩:=myd;have BB2:Bw W w4:=Zb (sqE BB) hb;clear BB;have BB:Hid (Bw W w4):=BB2;clear HF2;clear BB2 hb)
   | (go_at_call 62;refine (HH.out _).mono ?_;rintro e w9 ⟨rfl,hw9⟩;rw [hw9];clear hw9 w9)
   | (go_at_call 61;refine (HI1.out _ (sqE BB)).mono ?_;rintro e w9 ⟨rfl,hw9⟩;rw [hw9];clear hw9 w9;clear HI1)
   | (go_at_call 61;refine (HI2.out _ (sqE BB)).mono ?_;rintro e w9 ⟨rfl,hw9⟩;rw [hw9];clear hw9 w9)
   | (go_at_call 84;refine (HE.out _ (sqE BB)).mono ?_;rintro e w5 ⟨rfl,hb⟩;have cbd:=kp2 (n:=W.heap.size) hb;(try clear cbB cb0 cb1 cbf cbL cbN);obtain ⟨cbB,cb0,cb1,cbf,cbL,cbN⟩:=cbd;have abd:=kp2 (n:=W.heap.size+1) hb;(try clear abB ab0 ab1 abf abL abN);obtain ⟨abB,ab0,ab1,abf,abL,abN⟩:=abd;have myd:=kp6 (n:=w2.heap.size) hb;(try clear myB my0 my1 my2 my3 my4 my5 myf myL myN);obtain ⟨myB,my0,my1,my2,my3,my4,my5,myf,myL,myN⟩:=myd;have BB2:Bw W w5:=Zb (sqE BB) hb;clear BB;have BB:Hid (Bw W w5):=BB2;clear HE;clear BB2 hb)
   | (go_at_call 215;refine (HO.out _).mono ?_;rintro e w9 ⟨rfl,hw9⟩;rw [hw9];clear hw9 w9)
   | (go_at_call 214;refine (HS.out _ (sqE BB)).mono ?_;rintro e w6 ⟨rfl,hb⟩;have BB2:Bw W w6:=Zb (sqE BB) hb;clear BB;have BB:Hid (Bw W w6):=BB2;clear HS;clear BB2 hb))
 all_goals go_ret
 all_goals exact ⟨retB (by simp [*]),(sqE BB)⟩
theorem SndI.priv {ps:List Plc} (h:SndI ps) {c i:Int} {m:HM} (hm:Zm ps c i=some m):hasI m.fl 2=(Y6 m.fl == 2):=by
 obtain ⟨k,q,_,hq,hp,h4⟩:=Yl hm
 have hmem:m∈q.c.ms:=by
  rw [Y2] at h4
  split at h4
  ·exact List.mem_of_getElem? h4
  ·cases h4
 obtain ⟨n,hc⟩:=h q (List.mem_of_getElem? hq) m hmem
 cases e:hasI m.fl 2 with
 | true=>rw [(Zk0 hc e).1];rfl
 | false =>
   rw [Y6,e]
   cases hasI m.fl 1 <;> cases hasI m.fl 4 <;> rfl
theorem Zku {b:Nat} {cs:List Cls} {ps:List Plc} {W:World} (h:RAt b cs W) (ht:TwW cs ps) (hJ:WJ ps) (hS:SndI ps) (hz:∀ c∈cs,c.nm.size≤maxLen) (c1 c2 a1 a2:Int) (x y:HM) (hx:Zm ps c1 c2=some x) (hy:Zm ps a1 a2=some y):Calls Tryz.prog 191 #[.pointer (some ⟨b,0,none⟩),.agg #[.int .i64 c1,.int .i64 c2],.agg #[.int .i64 a1,.int .i64 a2]] W fun e w'=>e=.returned (.bool (plI ps (c1,c2) (a1,a2)))∧Bw W w':=by
 have eR:plI ps (c1,c2) (a1,a2)=plnB ps x.nm x.ds x.fl c1 y.nm y.ds y.fl a1:=by rw [plI];simp only [hx,hy]
 rw [eR]
 refine r9pw W b c1 c2 a1 a2 x.nm x.ds x.fl x.lo x.st y.nm y.ds y.fl y.lo y.st (freB x.fl x.nm) (freB y.fl y.nm) (hasI x.fl 2) (ifcI ps c1) (extI ps c1 a1) (ifcI ps a1) (spI ps c1 a1) _ (Y6 y.fl) ?_ (fun w hb=>Jq (h.below hb) ht c1 c2 x hx) (fun w hb=>Jq (h.below hb) ht a1 a2 y hy) (fun a n s w hb=>Zh0 _ _ _ _ _ a n s w) (fun a n s w hb=>Zh0 _ _ _ _ _ a n s w) (fun w=>Zv x.fl 2 w) (fun w hb=>?_) (fun w hb=>?_) (fun w hb=>Zcy (h.below hb) ht hJ c1 a1) (fun w=>rOpen3_c y.fl w) (fun w hb=>?_)
 ·rw [plnB,bloB,← hS.priv hx,reaB]
  have ho:=Zc3 y.fl
  generalize freB x.fl x.nm=f1 at *
  generalize freB y.fl y.nm=f2 at *
  generalize (x.nm.toList == y.nm.toList)=en at *
  generalize (x.ds.toList == y.ds.toList)=ed at *
  generalize hasI x.fl 2=p2 at *
  generalize ifcI ps c1=ic at *
  generalize (c1 == a1)=ce at *
  generalize extI ps c1 a1=ex at *
  generalize ifcI ps a1=ia at *
  generalize spI ps c1 a1=sp at *
  generalize Y6 y.fl=o at *
  clear eR hx hy
  cases f1
  ·exact .inl (by simp)
  refine .inr ?_
  cases f2
  ·exact .inl (by simp)
  refine .inr ?_
  cases en
  ·exact .inl (by simp)
  refine .inr ?_
  cases ed
  ·exact .inl (by simp)
  refine .inr ?_
  cases p2
  rotate_left
  ·exact .inl (by simp)
  refine .inr ?_
  cases ic
  rotate_left
  ·exact .inl (by simp)
  refine .inr ?_
  cases ce
  rotate_left
  ·exact .inl (by simp)
  refine .inr ?_
  cases ex
  ·exact .inl (by simp)
  refine .inr ?_
  cases ia <;> cases sp <;> rcases ho with rfl|rfl|rfl|rfl <;> simp
 ·exact (Yy (h.below hb) c1).mono fun e w' zz=>⟨by rw [zz.1,Zar ht],zz.2⟩
 ·exact (Yy (h.below hb) a1).mono fun e w' zz=>⟨by rw [zz.1,Zar ht],zz.2⟩
 ·exact (rSame_c (h.below hb) hz c1 a1).mono fun e w' zz=>⟨by rw [zz.1,spC_eq ht],zz.2⟩
theorem Zgk {p:Int×Int→Bool} {A:List (Int×Int)} {i:Nat} {x:Int×Int} (h:A[i]?=some x):(A.take (i+1)).filter p=(A.take i).filter p++if p x then [x] else []:=by
 rw [List.take_add_one,h,List.filter_append]
 congr 1
 simp [List.filter]
 cases p x <;> rfl
theorem Zim {p:Int×Int→Bool} {A:List (Int×Int)} {i:Nat} {x:Int×Int} (h:A[i]?=some x):(A.take (i+1)).any p=((A.take i).any p||p x):=by
 rw [List.take_add_one,h,List.any_append]
 simp
theorem Zii {p:Int×Int→Bool} {A:List (Int×Int)} (i:Nat):((A.take i).filter p).length≤A.length:=Nat.le_trans (List.length_filter_le _ _) (by rw [List.length_take];omega)
theorem Zhz {b:Nat} {cs:List Cls} {ps:List Plc} {W:World} (h:RAt b cs W) (ht:TwW cs ps) (hJ:WJ ps) (c E:Int) (nm ds:ByteArray) (A:List (Int×Int)) (hA:A.length≤300)
 (hC:∀ w,Bw W w→Calls Tryz.prog 192 #[.pointer (some ⟨b,0,none⟩),.int .i64 c,.string nm,.string ds] w fun e w'=>(∃ v,e=.returned (.tuple #[v,.int .i64 E])∧w'.ownsRow w.heap.size 38 2 v A.length (Zf A))∧Bw w w') :
 Calls Tryz.prog 127 #[.pointer (some ⟨b,0,none⟩),.int .i64 c,.string nm,.string ds] W fun e w'=>(∃ v,e=.returned (.tuple #[v,.int .i64 E])∧w'.ownsRow W.heap.size 38 2 v (maxL ps A).length (Zf (maxL ps A)))∧Bw W w':=by
 obtain ⟨i0,hi0,hz0,hz1,hz2⟩:=info_parts Tryz.hinfoD
 have HW0:Hid (RAt b cs W):=h
 have HTW:Hid (TwW cs ps):=ht
 have HWJ:Hid (WJ ps):=hJ
 obtain ⟨K,hK⟩:∃ K,A.length=K:=⟨_,rfl⟩
 have HK:Hid (A.length=K):=hK
 have HC:Hid (∀ w,Bw W w→Calls Tryz.prog 192 #[.pointer (some ⟨b,0,none⟩),.int .i64 c,.string nm,.string ds] w fun e w'=>(∃ v,e=.returned (.tuple #[v,.int .i64 E])∧w'.ownsRow w.heap.size 38 2 v A.length (Zf A))∧Bw w w'):=hC
 have HML:Hid (maxL ps A=A.filter fun m=>!Xt ps A m):=rfl
 rw [hK] at hA
 clear h ht hJ hK hC
 go_enter Tryz.func127,Tryz.ntmps127
 go_wp2_with (first
  | (go_at_call 192;refine (HC.out _ (Below.refl _ _)).mono ?_;rintro e w1 ⟨⟨v,rfl,ho⟩,hb⟩;rw [HK.out] at ho;obtain ⟨ca,cc,rfl⟩:=ownv ho;have O1:Hid (w1.ownsRow W.heap.size 38 2 (.slice ca K cc) K (Zf A)):=ho;have B1:Hid (Bw W w1):=hb;have HW1:Hid (RAt b cs w1):=HW0.out.below hb;clear ho hb HC))
 go_loopw [12,13] (fun sv kv wr=>∃ (i:Nat),kv=.int .i64 i∧i≤K∧Hid (wr.ownsRow w1.heap.size 38 2 sv ((A.take i).filter fun m=>!Xt ps A m).length (Zf ((A.take i).filter fun m=>!Xt ps A m)))∧Hid (Bw w1 wr)) (fun _ kv _=>K - (intOf kv).toNat)
 case atStart=>exact ⟨0,rfl,Nat.zero_le _,World.ownsRow_nil _ _ _ _,Below.refl _ _⟩
 case round =>
  obtain ⟨i,rfl,hi,hO,hB⟩:=hrel
  by_cases hlt:i<K
  ·have hiA:i<A.length:=by rw [HK.out];exact hlt
   obtain ⟨x,hx⟩:∃ x,A[i]?=some x:=⟨_,List.getElem?_eq_getElem hiA⟩
   have hst:=Zgk (p:=fun m=>!Xt ps A m) hx
   have hal:((A.take i).filter fun m=>!Xt ps A m).length≤300:=Nat.le_trans (Zii i) (by rw [HK.out];exact hA)
   obtain ⟨g,c2,hform⟩:=Go.Joins.ownsRow_form O1.out (by omega)
   have HROW:Hid (w1.ownsRow W.heap.size 38 2 (.slice (some ⟨g,0,none⟩) A.length cc) A.length (Zf A)):=by
    have hrow:=O1.out
    injection hform with hca _ _
    rw [Hid,HK.out,← hca];exact hrow
   injection hform with hca _ hcc
   subst hca
   obtain ⟨e0,e1,hgl⟩:=Z9 HROW.out hx
   have hgr:g<wr.heap.size:=Nat.lt_of_lt_of_le hgl hB.out.size
   replace e0:=(hB.out.cell (p:=⟨g,i * 2,none⟩) hgl).trans e0
   replace e1:=(hB.out.cell (p:=⟨g,i * 2+1,none⟩) hgl).trans e1
   obtain ⟨L,hL⟩:∃ L,((A.take i).filter fun m=>!Xt ps A m)=L:=⟨_,rfl⟩
   rw [hL] at hst hal hO
   obtain ⟨va,vn,rfl⟩:=ownv hO.out
   have HRr:Hid (RAt b cs wr):=HW1.out.below hB.out
   have HST:Hid (List.filter (fun m=>!Xt ps A m) (List.take (i+1) A)=L++if !Xt ps A x then [x] else []):=hst
   have HOV:Hid (Xt ps A x=A.any (Jt ps x)):=overB_eq ps A x
   obtain ⟨x1,x2⟩:=x
   have HXI:Hid (A[i]?=some (x1,x2)):=hx
   simp only at e0 e1
   clear hst hL hx hiA hcc
   obtain ⟨wo,hwo⟩:∃ x,x=wr:=⟨_,rfl⟩
   subst hwo
   go_wp2
   obtain ⟨σ,V,hne,V1,V2⟩:=class_of' (fun w'=>Bw wo w') ⟨_,Below.refl _ _⟩
   have kp:∀ (s:σ) (bb j:Nat) (v:Value),bb<wo.heap.size→wo.cell? ⟨bb,j,none⟩=some v→(V s).cell? ⟨bb,j,none⟩=some v:=fun s bb j v hl h=>((V1.out s).cell (p:=⟨bb,j,none⟩) hl).trans h
   have KP:Hid _:=kp
   have e0s:=fun s=>kp s _ _ _ hgr e0
   clear kp
   have hiI:(i:Int)<(K:Int):=by omega
   go_loopw [14,15] (fun lv jv wr=>∃ (j:Nat),jv=.int .i64 j∧j≤K∧lv=.bool (!((A.take j).any (Jt ps (x1,x2))))∧Hid (Bw wo wr)) (fun _ jv _=>K - (intOf jv).toNat)
   case atStart=>exact ⟨0,rfl,Nat.zero_le _,rfl,Below.refl _ _⟩
   case round =>
    obtain ⟨j,rfl,hj,rfl,hB2⟩:=hrel
    by_cases hlj:j<K
    ·have hjA:j<A.length:=by rw [HK.out];exact hlj
     obtain ⟨y,hy⟩:∃ y,A[j]?=some y:=⟨_,List.getElem?_eq_getElem hjA⟩
     obtain ⟨d0,_,_⟩:=Z9 HROW.out hy
     replace d0:=(hB.out.cell (p:=⟨g,j * 2,none⟩) hgl).trans d0
     have d0s:=fun s=>KP.out s _ _ _ hgr d0
     have hat:=Zim (p:=Jt ps (x1,x2)) hy
     obtain ⟨y1,y2⟩:=y
     have HAT:Hid (List.any (List.take (j+1) A) (Jt ps (x1,x2))=(List.any (List.take j A) (Jt ps (x1,x2))||(!(y1 == x1)&&extI ps y1 x1))):=hat
     generalize List.any (List.take j A) (Jt ps (x1,x2))=z at *
     have hjI:(j:Int)<(K:Int):=by omega
     simp only at d0s
     have HE:Hid (∀ s,Calls Tryz.prog 84 #[.pointer (some ⟨b,0,none⟩),.int .i64 y1,.int .i64 x1] (V s) fun e w''=>e=.returned (.bool (extI ps y1 x1))∧∃ s',w''=V s'):=fun s=>(Zcy (HRr.out.below (V1.out s)) HTW.out HWJ.out y1 x1).mono fun e w'' zz=>⟨zz.1,V2.out _ (Zb (V1.out s) zz.2)⟩
     generalize extI ps y1 x1=ex at *
     clear hy hjA hat d0 HST HOV HXI hO O1 e0 e1
     by_cases hxy:y1=x1
     ·subst hxy
      have hnn:(y1 != y1)=false:=by simp
      have HNX:Hid (List.any (List.take (j+1) A) (Jt ps (y1,x2))=z):=by rw [Hid,HAT.out];simp
      clear HAT
      go_wp2
      refine Ze (C:=fun w'=>∃ s,w'=V s) (by kernel_rfl) (by kernel_rfl) (V2.out _ (hB2.out.drew)) ?_
      repeat (go_big_quiet_step ((go_at_call 0;skip)))
      refine wpQuiet_nil ?_
      intro w9 hw9
      obtain ⟨s9,rfl⟩:=hw9
      have B9:Hid (Bw wo (V s9)):=V1.out s9
      go_wp2
      go_roundw
      case rel=>exact ⟨j+1,by go_num,by omega,by rw [HNX.out],B9⟩
      case measure=>simp [intOf];omega
     ·have hnn:(y1 != x1)=true:=by simpa using hxy
      have HNX:Hid (List.any (List.take (j+1) A) (Jt ps (x1,x2))=(z||ex)):=by rw [Hid,HAT.out,beq_false_of_ne hxy];simp
      clear HAT hxy
      cases ex
      all_goals
       go_wp2
       refine Ze (C:=fun w'=>∃ s,w'=V s) (by kernel_rfl) (by kernel_rfl) (V2.out _ (hB2.out.drew)) ?_
       repeat (go_big_quiet_step ((go_at_call 84;exact HE.out _)))
       refine wpQuiet_nil ?_
       intro w9 hw9
       obtain ⟨s9,rfl⟩:=hw9
       have B9:Hid (Bw wo (V s9)):=V1.out s9
       go_wp2
       go_roundw
       case rel=>exact ⟨j+1,by go_num,by omega,by rw [HNX.out];simp,B9⟩
       case measure=>simp [intOf];omega
    ·have e:j=K:=by omega
     subst e
     have HAL:Hid (List.any (List.take j A) (Jt ps (x1,x2))=Xt ps A (x1,x2)):=by rw [Hid,HOV.out,List.take_of_length_le (by rw [HK.out];exact Nat.le_refl _)]
     rw [HAL.out]
     have f0:=(hB2.out.cell (p:=⟨g,i * 2,none⟩) hgr).trans e0
     have f1:=(hB2.out.cell (p:=⟨g,i * 2+1,none⟩) hgr).trans e1
     have O2:Hid (wr.ownsRow w1.heap.size 38 2 (.slice va L.length vn) L.length (Zf L)):=Zd hO.out hB2.out
     have B2:Hid (Bw w1 wr):=Zb hB.out hB2.out
     have hgw:g<wr.heap.size:=Nat.lt_of_lt_of_le hgr hB2.out.size
     have hgn:¬ g=wr.heap.size:=by omega
     clear HAL HOV e0 e1 e0s hO KP V1 V2 hB hB2
     generalize Xt ps A (x1,x2)=ov at *
     cases ov with
     | true =>
       have hst2:List.filter (fun m=>!Xt ps A m) (List.take (i+1) A)=L:=by rw [HST.out];simp
       clear HST
       go_wp2
       refine ⟨⟨i+1,by simp,by omega,?_,B2⟩,by simp [intOf];omega⟩
       rw [hst2];exact O2
     | false =>
       have hst2:List.filter (fun m=>!Xt ps A m) (List.take (i+1) A)=L++[(x1,x2)]:=by rw [HST.out];simp
       clear HST
       go_wp2_with (first
        | (at_builtin;refine wpList_append_own _ rfl _ _ 30 rfl w1.heap.size 38 i0 (.agg #[.int .i64 0,.int .i64 0]) 2 16 Tryz.underlying30 hi0 hz0 hz1 hz2 rfl (by decide) (.slice va L.length vn) L.length (Zf L) rfl (O2.out.alloc _) ⟨wr.heap.size,0,none⟩ 1 1 [.int .i64 x1,.int .i64 x2] rfl rfl ?c1 ?c2 ?c3 ?c4 ?c5 ?_))
       case c1=>intro jj u hj;rw [addr_add];match jj,hj with
        | 0,hj=>simp at hj;subst hj;simp [go_sem]
        | 1,hj=>simp at hj;subst hj;simp [go_sem]
        | (jj+2),hj=>simp at hj
       case c2=>intro u hu;simp at hu;rcases hu with rfl|rfl <;> rfl
       case c3=>unfold maxLen;omega
       case c4=>omega
       case c5=>have:=B2.out.size;simp;omega
       intro v' w4 hown hgrow _
       obtain ⟨va2,vn2,rfl⟩:=ownv hown
       have B4:Hid (Bw w1 w4):=by
        have hb1:Bw w1 (wr.alloc (.cells #[.int .i64 x1,.int .i64 x2] 38)):=B2.out.alloc B2.out.size _
        refine hb1.grown hgrow hb1.size (fun x hx=>?_)
        have:=(O2.out.lt x hx).1
        omega
       have O4:Hid (w4.ownsRow w1.heap.size 38 2 (.slice va2 (L.length+1) vn2) (L++[(x1,x2)]).length (Zf (L++[(x1,x2)]))):=by
        rw [Hid,List.length_append,Yw];exact hown
       go_wp2
       refine ⟨⟨i+1,by simp,by omega,?_,B4⟩,by simp [intOf];omega⟩
       rw [hst2];exact O4
  ·have e:i=K:=by omega
   subst e
   have HE:Hid (((A.take i).filter fun m=>!Xt ps A m)=maxL ps A):=by rw [Hid,HML.out,List.take_of_length_le (by rw [HK.out];exact Nat.le_refl _)]
   rw [HE.out] at hO
   obtain ⟨va,vn,rfl⟩:=ownv hO.out
   go_wp2
   exact bodyPost_ret (results_tmp2 rfl _ _ _) rfl ⟨⟨_,rfl,Go.Joins.ownsRow_le hO.out B1.out.size⟩,B1.out.trans (hB.out.mono B1.out.size)⟩
theorem r9in_c {W:World} {N:Nat} (A:List (Int×Int)) (hA:A.length≤1000000) (v:Value) (hO:W.ownsRow N 38 2 v A.length (Zf A)) (m1 m2:Int):Calls Tryz.prog 190 #[v,.agg #[.int .i64 m1,.int .i64 m2]] W fun e w'=>e=.returned (.bool (A.any fun x=>(x.1 == m1)&&(x.2 == m2)))∧Bw W w':=by
 obtain ⟨K,hK⟩:∃ K,A.length=K:=⟨_,rfl⟩
 have HK:Hid (A.length=K):=hK
 obtain ⟨R,hR⟩:∃ R,(A.any fun x=>(x.1 == m1)&&(x.2 == m2))=R:=⟨_,rfl⟩
 have HR:Hid ((A.any fun x=>(x.1 == m1)&&(x.2 == m2))=R):=hR
 rw [hR]
 rw [hK] at hA
 obtain ⟨va,vc,rfl⟩:=ownv hO
 have HO:Hid (W.ownsRow N 38 2 (.slice va A.length vc) A.length (Zf A)):=hO
 rw [hK]
 obtain ⟨σ,V,hne,V1,V2⟩:=class_of' (fun w'=>Below (W.heap.size+1) (W.alloc (.cells #[.int .i64 m1,.int .i64 m2] 38)) w') ⟨_,Below.refl _ _⟩
 have HBV:Hid (∀ s0,Bw W (V s0)):=fun s0=>((Below.refl _ W).alloc (Nat.le_refl _) _).trans ((V1.out s0).mono (by omega))
 have mV0:∀ s0,(V s0).cell? ⟨W.heap.size,0,none⟩=some (.int .i64 m1):=fun s0=>((V1.out s0).cell (p:=⟨W.heap.size,0,none⟩) (show W.heap.size<W.heap.size+1 by omega)).trans (by simp [go_sem])
 have mV1:∀ s0,(V s0).cell? ⟨W.heap.size,1,none⟩=some (.int .i64 m2):=fun s0=>((V1.out s0).cell (p:=⟨W.heap.size,1,none⟩) (show W.heap.size<W.heap.size+1 by omega)).trans (by simp [go_sem])
 clear hK hR hO
 go_enter Tryz.func190,Tryz.ntmps190
 go_wp2
 go_loopw [5] (fun kv wr=>∃ (j:Nat),kv=.int .i64 j∧j≤K∧Hid (((A.take j).any fun x=>(x.1 == m1)&&(x.2 == m2))=false)∧Hid (Below (W.heap.size+1) (W.alloc (.cells #[.int .i64 m1,.int .i64 m2] 38)) wr)) (fun kv _=>K - (intOf kv).toNat)
 case atStart=>exact ⟨0,rfl,Nat.zero_le _,rfl,Below.refl _ _⟩
 case round =>
  obtain ⟨j,rfl,hj,hG,hB⟩:=hrel
  by_cases hlt:j<K
  ·have hjA:j<A.length:=by rw [HK.out];exact hlt
   have hjI:(j:Int)<(K:Int):=by omega
   obtain ⟨x,hx⟩:∃ x,A[j]?=some x:=⟨_,List.getElem?_eq_getElem hjA⟩
   obtain ⟨g,c2,hform⟩:=Go.Joins.ownsRow_form HO.out (by omega)
   have HROW:Hid (W.ownsRow N 38 2 (.slice (some ⟨g,0,none⟩) A.length vc) A.length (Zf A)):=by
    have hrow:=HO.out
    injection hform with hca _ _
    rw [Hid,← hca];exact hrow
   injection hform with hca _ hcc
   subst hca hcc
   obtain ⟨e0,e1,hgl⟩:=Z9 HROW.out hx
   replace e0:=fun s0=>((HBV.out s0).cell (p:=⟨g,j * 2,none⟩) hgl).trans e0
   replace e1:=fun s0=>((HBV.out s0).cell (p:=⟨g,j * 2+1,none⟩) hgl).trans e1
   have hst:=Zim (p:=fun x=>(x.1 == m1)&&(x.2 == m2)) hx
   rw [hG.out,Bool.false_or] at hst
   have HQ:Hid (∀ s,Calls Tryz.prog 27 #[.agg #[.int .i64 x.1,.int .i64 x.2],.agg #[.int .i64 m1,.int .i64 m2]] (V s) fun e w''=>e=.returned (.bool ((x.1 == m1)&&(x.2 == m2)))∧∃ s',w''=V s'):=fun s=>(Zdu x (m1,m2) (V s)).mono fun e w'' zz=>⟨zz.1,V2.out _ ((V1.out s).trans (zz.2.mono (Nat.le_trans (by simp) (V1.out s).size)))⟩
   have hall:((x.1 == m1)&&(x.2 == m2))=true→R=true:=fun h=>by
    rw [← HR.out]
    exact List.any_eq_true.2 ⟨x,List.mem_of_getElem? hx,h⟩
   have HST:Hid _:=hst
   obtain ⟨x1,x2⟩:=x
   simp only at e0 e1 HQ hall HST
   generalize ((x1 == m1)&&(x2 == m2))=S at *
   clear hx hst hG hjA HROW
   go_wp2
   refine Ze (C:=fun w'=>∃ s,w'=V s) (by kernel_rfl) (by kernel_rfl) (V2.out _ (hB.out.drew)) ?_
   repeat (go_big_quiet_step ((go_at_call 27;exact HQ.out _)))
   refine wpQuiet_nil ?_
   intro w9 hw9
   obtain ⟨s9,hw9⟩:=hw9
   have B9:Hid (Below (W.heap.size+1) (W.alloc (.cells #[.int .i64 m1,.int .i64 m2] 38)) w9):=by rw [hw9];exact V1.out s9
   have B8:Hid (Bw W w9):=by rw [hw9];exact HBV.out s9
   clear hw9
   cases S
   case true =>
    obtain rfl:=hall rfl
    go_wp2
    all_goals go_ret
    all_goals exact ⟨retB (by simp),B8.out⟩
   case false =>
    go_wp2
    go_roundw
    case rel=>exact ⟨j+1,by go_num,by omega,HST.out,B9⟩
    case measure=>simp [intOf];omega
  ·have e:j=K:=by omega
   subst e
   have eR:R=false:=by
    have:=hG.out
    rw [← HK.out,List.take_length] at this
    rw [← HR.out];exact this
   subst eR
   clear hG HR
   have B8:Hid (Bw W wr):=((Below.refl _ W).alloc (Nat.le_refl _) _).trans (hB.out.mono (by omega))
   go_wp2
   all_goals go_ret
   all_goals exact ⟨retB (by simp),B8.out⟩
end Go.Proofs.YtmafkabjjibcbaaGreat
