import Derived.Test.YtlnojhhddinjkaaGreatHpO
set_option maxHeartbeats 4000000
set_option maxRecDepth 100000
namespace Go.Proofs.YtlnojhhddinjkaaGreat
open Go.RowKit Go.Maps
def Lk (os:List Ob) (es:List Dv):Prop:=es.map Dv.q=os.map fun o=>poQ o.p
def Gd (os:List Ob):Prop:=∀ o∈os,0≤o.d∧o.nm.size≤maxLen
theorem Lk.len {os:List Ob} {es:List Dv} (h:Lk os es):es.length=os.length:=by
 have:=congrArg List.length h
 simpa using this
theorem Lk.wd {os:List Ob} {es:List Dv} (h:Lk os es):wdD es=wdL os:=by
 rw [← Zfj,h,← Zco,← Zi7,List.map_map];rfl
theorem Lk.app {os no:List Ob} {es ne:List Dv} (h:Lk os es) (hn:ne.map Dv.q=(no.map Ob.p).map poQ):Lk (os++no) (es++ne):=by
 unfold Lk at *
 rw [List.map_append,List.map_append,h,hn,List.map_map];rfl
theorem Lk.get? {os:List Ob} {es:List Dv} (h:Lk os es) (k:Nat):(es[k]?).map Dv.q=(os[k]?).map fun o=>poQ o.p:=by
 have:=congrArg (fun l=>l[k]?) h
 simpa using this
theorem Lk.ob {os:List Ob} {es:List Dv} (h:Lk os es) (r:Int):(obI os r=none∧dvI es r=none)∨∃ (k:Nat) (o:Ob) (e:Dv),r=(k:Int)+1∧os[k]?=some o∧es[k]?=some e∧obI os r=some o∧dvI es r=some e∧e.d=o.d∧e.nm=o.nm∧e.vs=toQ (rfD o.d o.nm) o.xs:=by
 have hl:=h.len
 rcases X9 os r with ⟨h1,h2⟩|⟨k,o,rfl,hk,h1⟩
 ·refine .inl ⟨h1,?_⟩
  rcases Xg es r with ⟨g1,_⟩|⟨k,e,rfl,hk,_⟩
  ·exact g1
  ·have:=(List.getElem?_eq_some_iff.1 hk).1
   omega
 ·have:=h.get? k
  rw [hk] at this
  cases e:es[k]? with
  | none=>rw [e] at this;cases this
  | some x =>
    rw [e] at this
    simp [Dv.q,poQ,Ob.p] at this
    refine .inr ⟨k,o,x,rfl,hk,e,h1,?_,this.1,this.2.1,this.2.2⟩
    rw [dvI,if_pos (by omega),show ((k:Int)+1 - 1).toNat=k by omega,e]
theorem Lk.typ {os:List Ob} {es:List Dv} (h:Lk os es) (r:Int):tyD (dvI es r)=tyHo (obI os r)∧dvF es r=obF os r:=by
 rcases h.ob r with ⟨h1,h2⟩|⟨k,o,e,_,_,_,h1,h2,q1,q2,q3⟩
 ·rw [dvF,obF,h1,h2];exact ⟨rfl,rfl⟩
 ·rw [dvF,obF,h1,h2]
  exact ⟨by simp [tyD,tyHo,q1,q2],rfl⟩
theorem Lk.ar {os:List Ob} {es:List Dv} (h:Lk os es) (r:Int):(arO os r=none∧daO es r=none∧daF es r=arF os r)∨∃ (k:Nat) (o:Ob) (e:Dv),r=(k:Int)+1∧os[k]?=some o∧es[k]?=some e∧arO os r=some o∧daO es r=some e∧daF es r=arF os r∧¬ o.d=0∧e.d=o.d∧e.nm=o.nm∧e.vs=toQ (rfD o.d o.nm) o.xs:=by
 rcases h.ob r with ⟨h1,h2⟩|⟨k,o,e,hr,hk,hk2,h1,h2,q1,q2,q3⟩
 ·refine .inl ?_
  rw [daF,arF,arO,daO,h1,h2];exact ⟨rfl,rfl,rfl⟩
 ·by_cases hd:o.d=0
  ·refine .inl ?_
   rw [daF,arF,arO,daO,h1,h2]
   simp [q1,hd]
  ·refine .inr ⟨k,o,e,hr,hk,hk2,?_,?_,?_,hd,q1,q2,q3⟩
   ·rw [arO,h1];simp [hd]
   ·rw [daO,h2];simp [q1,hd]
   ·rw [daF,arF,h1,h2];simp [q1,hd]
theorem Lk.lng {os:List Ob} {es:List Dv} (h:Lk os es) (r:Int):lnD (daO es r)=lnO (arO os r)∧daF es r=arF os r:=by
 rcases h.ar r with ⟨h1,h2,h3⟩|⟨k,o,e,_,_,_,h1,h2,h3,_,_,_,q⟩
 ·rw [h1,h2];exact ⟨rfl,h3⟩
 ·rw [h1,h2];exact ⟨by simp [lnD,lnO,q,J6],h3⟩
theorem Zjm {d:Int} {nm:ByteArray} (h0:0≤d) (h:¬ d=0):rfD d nm=rfB d nm:=by
 unfold rfD rfB
 by_cases h1:d=1
 ·simp [h1]
 ·have:1<d:=by omega
  simp [h1,this]
theorem Lk.gt {os:List Ob} {es:List Dv} (h:Lk os es) (hg:Gd os) (r i:Int):(gdV es r i).1=geR os r i∧(gdV es r i).2=geN os r i∧gdE es r i=geE os r i:=by
 rcases h.ar r with ⟨h1,h2,h3⟩|⟨k,o,e,_,hk,_,h1,h2,h3,h4,_,_,q⟩
 ·rw [gdV,gdE,geR,geN,geE,h1,h2];exact ⟨rfl,rfl,h3⟩
 ·rw [gdV,gdE,geR,geN,geE,h1,h2]
  simp only
  have hl:e.vs.length=o.xs.length:=by rw [q,J6]
  rw [hl]
  by_cases hi:0≤i∧i<(o.xs.length:Int)
  ·simp only [if_pos hi]
   have hlt:i.toNat<o.xs.length:=by omega
   have hv:e.vs[i.toNat]?=some (rfD o.d o.nm,o.xs[i.toNat]):=by rw [q,toQ,List.getElem?_map,List.getElem?_eq_getElem hlt];rfl
   rw [hv,List.getElem?_eq_getElem hlt]
   exact ⟨Zjm (hg o (List.mem_of_getElem? hk)).1 h4,rfl,by first|rfl|trivial⟩
  ·simp only [if_neg hi]
   exact ⟨trivial,trivial,trivial⟩
theorem Lk.cs {os:List Ob} {es:List Dv} (h:Lk os es) (ps:List Plc) (d:Int) (nm:ByteArray) (r:Int):dcsE ps es d nm r=csE ps os d nm r:=by
 rcases h.ob r with ⟨h1,h2⟩|⟨k,o,e,_,_,_,h1,h2,q1,q2,q3⟩
 ·rw [dcsE,csE,h1,h2]
 ·rw [dcsE,csE,h1,h2];simp only [q1,q2]
theorem Lk.st {os:List Ob} {es:List Dv} (h:Lk os es) (hg:Gd os) (ps:List Plc) (r i:Int) (Rf:Bool) (N:Int):dstE ps es r i Rf N=stE ps os r i Rf N∧Lk (stL ps os r i Rf N) (dstL ps es r i Rf N):=by
 rcases h.ar r with ⟨h1,h2,h3⟩|⟨k,o,e,hr,hk,hk2,h1,h2,h3,h4,q1,q2,q⟩
 ·rw [dstL,stL,dstE,stE,h1,h2];exact ⟨h3,h⟩
 ·have hrf:=Zjm (nm:=o.nm) (hg o (List.mem_of_getElem? hk)).1 h4
  have hE:dstE ps es r i Rf N=stE ps os r i Rf N:=by
   rw [dstE,stE,h1,h2]
   simp only [q1,q2,q,J6,hrf,h.cs]
  refine ⟨hE,?_⟩
  rw [dstL,stL,h1,h2]
  simp only [hE]
  by_cases h0:stE ps os r i Rf N=0
  ·rw [if_pos h0,if_pos h0]
   have hR:rfB o.d o.nm=Rf:=by
    rw [stE,h1] at h0
    simp only at h0
    by_cases hh:rfB o.d o.nm=Rf
    ·exact hh
    ·rw [if_neg hh] at h0;cases h0
   unfold Lk at *
   rw [List.map_set,List.map_set,h]
   congr 1
   simp only [Dv.q,poQ,Ob.p,q1,q2,q]
   rw [hrf,hR,Zjd]
  ·rw [if_neg h0,if_neg h0];exact h
theorem Gd.st {os:List Ob} (hg:Gd os) (ps:List Plc) (r i:Int) (Rf:Bool) (N:Int):Gd (stL ps os r i Rf N):=by
 unfold stL
 cases e:arO os r with
 | none=>exact hg
 | some o =>
   simp only
   split
   ·intro x hx
    rcases List.mem_or_eq_of_mem_set hx with y|rfl
    ·exact hg x y
    ·exact hg o (Xm (Jc e).1)
   ·exact hg
theorem and_bv (f:Int) (m:Nat):bits .and .i64 f (m:Int)=IntKind.wrap .i64 ((BitVec.ofInt 64 f &&& BitVec.ofInt 64 (m:Int)).toNat:Int):=rfl
theorem Zlc (fl:Int):(hasI fl 512||hasI fl 1024)=absB fl:=by
 have hw:∀ m:Nat,m<2048→(bits .and .i64 fl (m:Int)=0↔(BitVec.ofInt 64 fl).toNat &&& m=0):=fun m hm=>by
  rw [and_bv,Zdv _ (BitVec.isLt _),BitVec.toNat_and]
  have:(BitVec.ofInt 64 (m:Int)).toNat=m:=by
   rw [BitVec.ofInt_natCast,BitVec.toNat_ofNat,Nat.mod_eq_of_lt (by omega)]
  rw [this]
 have h1:=hw 512 (by omega)
 have h2:=hw 1024 (by omega)
 have h3:=hw 1536 (by omega)
 obtain ⟨n,hn⟩:∃ n,(BitVec.ofInt 64 fl).toNat=n:=⟨_,rfl⟩
 rw [hn] at h1 h2 h3
 have h4:n &&& 1536=(n &&& 512) ||| (n &&& 1024):=by rw [← Nat.and_or_distrib_left];rfl
 have h5:n &&& 1536=0↔n &&& 512=0∧n &&& 1024=0:=by rw [h4,Nat.or_eq_zero_iff]
 unfold hasI absB
 rw [Bool.eq_iff_iff]
 simp only [Bool.or_eq_true,bne_iff_ne,ne_eq]
 rw [show (512:Int)=((512:Nat):Int) from rfl,show (1024:Int)=((1024:Nat):Int) from rfl,show (1536:Int)=((1536:Nat):Int) from rfl,h1,h2,h3,h5]
 by_cases a:n &&& 512=0
 ·simp [a]
 ·simp [a]
theorem Lk.obj {os:List Ob} {es:List Dv} (h:Lk os es) {cs:List Cls} {ps:List Plc} (ht:TwW cs ps) (x:Int):dobE cs es x=obnE ps os x∧dobN cs es x=obnN ps os x∧Lk (obnL ps os x) (dobL cs es x):=by
 have hl:=h.len
 have key:dobE cs es x=obnE ps os x∧Lk (obnL ps os x) (dobL cs es x):=by
  rcases ht.tw.clsI x with ⟨h1,h2⟩|⟨k,c,q,_,_,_,hq,h1,h2⟩
  ·rw [dobE,obnE,dobL,obnL,h1,h2];exact ⟨rfl,h⟩
  ·have e1:q.c.fl=c.fl:=by rw [hq];rfl
   have e2:q.c.nm=c.nm:=by rw [hq];rfl
   have hE:dobE cs es x=obnE ps os x:=by
    rw [dobE,obnE,h1,h2];simp only [e1,Zlc,hl]
   refine ⟨hE,?_⟩
   have hE2:=hE
   rw [dobL,obnL,h1,h2]
   rw [obnE,h2]
   simp only [e1,e2,Zlc,hl]
   cases absB c.fl with
   | true=>simpa using h
   | false =>
     by_cases h10:1000≤os.length
     ·simpa [h10] using h
     ·simp only [h10,if_false,Bool.false_eq_true]
      refine h.app ?_
      simp [Dv.q,poQ,Ob.p,toQ]
 refine ⟨key.1,?_,key.2⟩
 rw [dobN,obnN,key.1,hl]
theorem Gd.obj {os:List Ob} (hg:Gd os) {ps:List Plc} (hi:WI ps) (x:Int):Gd (obnL ps os x):=by
 unfold obnL
 cases e:plcI ps x with
 | none=>exact hg
 | some q =>
   simp only
   split
   ·intro o ho
    rcases List.mem_append.1 ho with y|y
    ·exact hg o y
    ·simp at y
     subst y
     refine ⟨Int.le_refl _,hi.nm q ?_⟩
     rcases Yg ps x with ⟨h1,_⟩|⟨k,q',_,h2,h1⟩
     ·rw [h1] at e;cases e
     ·rw [h1] at e;cases e;exact List.mem_of_getElem? h2
   ·exact hg
theorem Gd.app {os no:List Ob} (hg:Gd os) (hn:∀ p∈no.map Ob.p,0≤p.1∧p.2.1.size≤maxLen):Gd (os++no):=by
 intro o ho
 rcases List.mem_append.1 ho with y|y
 ·exact hg o y
 ·exact hn _ (List.mem_map.2 ⟨o,y,rfl⟩)
theorem Zkr (nm:ByteArray) (hz:nm.size≤maxLen):∀ (cs:List Nat) (d:Int) (n:Nat),(cs.length:Int)≤d→∀ p∈filP nm d cs n,0≤p.1∧p.2.1.size≤maxLen
 | [],d,n,_,p,hp=>by simp [filP] at hp
 | c::cs,d,n,hd,p,hp=>by
   have hl:(c::cs).length=cs.length+1:=rfl
   rw [filP] at hp
   rcases List.mem_cons.1 hp with rfl|hp
   ·exact ⟨by simp only;omega,hz⟩
   ·obtain ⟨i,_,hi⟩:=List.mem_flatMap.1 hp
    exact Zkr nm hz cs (d - 1) _ (by omega) p hi
theorem Lk.rm {os:List Ob} {es:List Dv} (h:Lk os es) (cs:List Nat):rmD es (szC cs) (wdC cs)=rmB os cs:=by
 rw [rmD,rmB,h.len,h.wd]
theorem Lk.ary {os:List Ob} {es:List Dv} (h:Lk os es) {cs:List Cls} {ps:List Plc} (ht:TwW cs ps) (d:Int) (nm:ByteArray) (n:Int):dryE cs es d nm n=aryE ps os d nm n:=by
 rw [dryE,aryE,Zha ht,h.len,h.wd]
 split
 ·rw [dayE,filE]
  split
  ·by_cases hn:n<0
   ·rw [if_pos hn,if_pos (by simp [negB,hn])]
   ·have e1:negB [n]=false:=by simp [negB];omega
    have e2:rmB os [n.toNat]=(decide (os.length+1≤1000)&&decide (wdL os+n.toNat≤20000)):=by
     have z1:szC [n.toNat]=1:=by simp [szC]
     have z2:wdC [n.toNat]=n.toNat:=by simp [wdC]
     rw [rmB,z1,z2]
    rw [if_neg hn,e1]
    simp only [Bool.false_eq_true,if_false,List.map_cons,List.map_nil]
    rw [e2]
    by_cases h2:os.length+1≤1000∧(wdL os:Int)+n≤20000
    ·rw [if_pos h2,if_pos (by simp;omega)]
    ·rw [if_neg h2,if_neg (by simp;omega)]
  ·rfl
 ·rfl
theorem cs_at {W:World} {g o:Nat} {xs:List Int} (h:IsAt W g o xs) (hn:negB xs=false):CsAt W g o (xs.map Int.toNat):=fun i x hx=>by
 rw [List.getElem?_map] at hx
 cases e:xs[i]? with
 | none=>rw [e] at hx;cases hx
 | some y =>
   rw [e] at hx
   simp at hx
   have h1:=Zg5 hn e
   rw [h i y e,show ((x:Nat):Int)=y by omega]
def mldE (ps:List Plc) (es:List Dv) (d:Int) (nm:ByteArray) (xs:List Int):Int:=if ldI ps d nm=0 then (if xs.length=0∨d<(xs.length:Int) then 2 else if negB xs then 30 else if rmD es (szC (xs.map Int.toNat)) (wdC (xs.map Int.toNat)) then 0 else 32) else ldI ps d nm
theorem multi_d {W:World} {S:Nat→Prop} {r b:Nat} {tv ev:Value} {es:List Dv} (h:RhAt W S r b tv ev es) {cs:List Cls} {ps:List Plc} (hw:RAt b cs W) (hT:TwW cs ps) (hn:cs.length≤300) (d:Int) (nm:ByteArray) (hz:nm.size≤maxLen) (a:Option Addr) (n cap:Nat) (xs:List Int) (HN:xs.length=n) (ha:¬ n=0→∃ g o,a=some ⟨g,o,none⟩∧IsAt W g o xs∧¬ S g) :
 Calls Tryz.prog 38 #[.pointer (some ⟨r,0,none⟩),.agg #[.int .i64 d,.string nm],.slice a n cap] W fun e w'=>e=.returned (.tuple #[.int .i64 (if mldE ps es d nm xs=0 then (es.length:Int)+1 else 0),.int .i64 (mldE ps es d nm xs)])∧∃ new,RhN S W w' r b (es++new)∧new.map Dv.q=if mldE ps es d nm xs=0 then filQ nm d (xs.map Int.toNat) es.length else []:=by
 have HL:∀ w,Bw W w→Calls Tryz.prog 77 #[.pointer (some ⟨b,0,none⟩),.agg #[.int .i64 d,.string nm]] w fun e w'=>e=.returned (.int .i64 (ldI ps d nm))∧Bw w w':=fun w hl=>by rw [← Zha hT];exact Jm (hw.below hl) hn d nm hz
 obtain ⟨c0,c1,c2,fz,hl0⟩:=h.cells
 obtain ⟨a0,cp,hv⟩:=ownv h.tw
 rw [hv] at c1
 have stay:∀ w',Bw W w'→∃ new,RhN S W w' r b (es++new)∧new.map Dv.q=[]:=fun w' hb=>⟨[],by rw [List.append_nil];exact h.stay hb,rfl⟩
 by_cases e2:ldI ps d nm=0
 ·rw [e2] at HL
  by_cases e3:n=0∨d<(n:Int)
  ·have q1:mldE ps es d nm xs=2:=by rw [mldE,if_pos e2,HN,if_pos e3]
   rw [q1]
   exact (mul_d2 d nm a n cap e3 c0 HL).mono fun e w' ⟨a1,a2⟩=>⟨a1,stay w' a2⟩
  ·obtain ⟨g,o,rfl,hx,hg⟩:=ha (fun x=>e3 (.inl x))
   obtain ⟨h0,h255,_⟩:=Qn e2
   cases hN:negB xs with
   | true =>
     have q1:mldE ps es d nm xs=30:=by rw [mldE,if_pos e2,HN,if_neg e3,hN];rfl
     rw [q1]
     exact (mul_neg d nm g o n cap xs HN (fun x=>e3 (.inl x)) (by omega) (by omega) c0 hx hN HL).mono fun e w' ⟨a1,a2⟩=>⟨a1,stay w' a2⟩
   | false =>
     obtain ⟨B,hB⟩:∃ B,rmD es (szC (xs.map Int.toNat)) (wdC (xs.map Int.toNat))=B:=⟨_,rfl⟩
     have q1:mldE ps es d nm xs=if B then 0 else 32:=by rw [mldE,if_pos e2,HN,if_neg e3,hN,hB];rfl
     have hgl:g<W.heap.size:=by
      obtain ⟨x,hx1⟩:∃ x,xs[0]?=some x:=⟨_,List.getElem?_eq_getElem (by omega)⟩
      exact World.block_lt_of_cell? W _ (hx 0 x hx1)
     refine (mul_go d nm g o n cap xs B (R:=fun w'=>∃ new,RhN S W w' r b (es++new)∧new.map Dv.q=if B then filQ nm d (xs.map Int.toNat) es.length else []) HN (fun x=>e3 (.inl x)) (by omega) (by omega) h.n1 c0 c1 hx hN HL (fun w hl=>?_)).mono fun e w' ⟨a1,a2⟩=>?_
     ·have hC:=cs_at (hx.keep (hl.block g hgl)) hN
      obtain ⟨c,cs',hcs⟩:∃ c cs',xs.map Int.toNat=c::cs':=by
       cases e:xs.map Int.toNat with
       | nil=>have:=congrArg List.length e;rw [List.length_map,HN] at this;simp at this;omega
       | cons c r=>exact ⟨c,r,rfl⟩
      have hlen:=congrArg List.length hcs
      simp only [List.length_map,List.length_cons] at hlen
      rw [hcs] at hC hB ⊢
      have:=dfl_c nm g o n cap r b (by omega) cs' c 0 d w S tv ev es (h.below hl) hC (by omega) (by omega) h255 hg
      rw [hB] at this
      refine this.mono fun e w' ⟨a1,ys,a2,a3⟩=>⟨a1,?_⟩
      cases B with
      | true=>exact ⟨ys,a2.pre hl,by rw [if_pos rfl];exact a3 rfl⟩
      | false =>
        have hc:=((a2.pre hl).cutR h.rS).mono (R':=fun w'=>∃ new,RhN S W w' r b (es++new)∧new.map Dv.q=[]) fun w2 h2=>⟨[],by rw [List.append_nil];exact h2,rfl⟩
        exact hc
     ·rw [q1]
      cases B with
      | true=>exact ⟨a1,a2⟩
      | false=>exact ⟨a1,a2⟩
 ·have q1:mldE ps es d nm xs=ldI ps d nm:=by rw [mldE,if_neg e2]
  rw [q1,if_neg e2,if_neg e2]
  exact (mul_d1 d _ nm _ e2 c0 HL).mono fun e w' ⟨a1,a2⟩=>⟨a1,stay w' a2⟩
theorem Lk.mul {os:List Ob} {es:List Dv} (h:Lk os es) (ps:List Plc) (d:Int) (nm:ByteArray) (xs:List Int):mldE ps es d nm xs=mulE ps os d nm xs:=by
 rw [mldE,mulE,filE,h.rm]
def KeptK (K:Obj→Prop) (w w':World):Prop:=∀ (j:Nat) (o:Obj),w.heap[j]?=some o→K o→w'.heap[j]?=some o
theorem Jj {w w':World} {K:Obj→Prop} {N e s:Nat} {v:Value} {n:Nat} {xs:List Value} (h:w.ownsRow N e s v n xs) (hk:KeptK K w w') (he:∀ cs,K (.cells cs e (0,0))):w'.ownsRow N e s v n xs:=by
 refine ⟨h.1,?_⟩
 rcases h.2 with hn|⟨g,cap,cur,rfl,hb,hgg,rest⟩
 ·exact .inl hn
 ·exact .inr ⟨g,cap,cur,rfl,hb,hk g _ hgg (he cur),rest⟩
theorem OwnC.keptK {w w':World} {K:Obj→Prop} {N:Nat} {vi:Value} {ni:Nat} {xi:List Value} {vm:Value} {qm:List (HM×Value)} (h:OwnC w N vi ni xi vm qm) (hk:KeptK K w w') (he:∀ cs t,t=9∨t=68∨t=76→K (.cells cs t (0,0))):OwnC w' N vi ni xi vm qm :=
 ⟨Jj h.ifs hk fun cs=>he cs _ (by decide),Jj h.ms hk fun cs=>he cs _ (by decide),fun x hx=>Jj (h.cod x hx) hk fun cs=>he cs _ (by decide)⟩
theorem Zg2 (v:Value) (l:List Cls) (W:World) (h:J3 W v l):Calls Tryz.prog 6 #[v] W fun e w'=>∃ b hb V,e=.returned (.tuple #[.pointer (some ⟨b,0,none⟩),.pointer (some ⟨hb,0,none⟩)])∧Bw W V∧WAt b (wld l) V∧Bw V w'∧V.heap.size≤hb∧HpAt w' (fun k=>k=hb) hb b (.slice none 0 0) []:=by
 have hCW:=Zk0 h
 obtain ⟨ao,cap,rfl,h1,h2,h3⟩:=h
 unfold maxLen at h2
 obtain ⟨L,hL⟩:∃ L,l.length=L:=⟨_,rfl⟩
 have HL:Hid (l.length=L):=hL
 have HI:Hid _:=h3
 have HCW:Hid (∀ c∈l,ClsW c):=hCW
 rw [hL] at h1 ⊢
 clear hL h3 hCW
 have HN:Hid (∀ w:World,Calls Tryz.prog 11 #[] w fun e w'=>e=.returned (.pointer (some ⟨w.heap.size+1,0,none⟩))∧(∃ vp pv,HW w' w.heap.size (w.heap.size+1) w.heap.size P3 vp pv)∧Bw w w'):=new_any
 go_enter Tryz.func6,Tryz.ntmps6
 go_wp2_with (first
  | (go_at_call 11;refine (HN.out _).mono ?_;rintro e w2 ⟨rfl,hw,hb⟩;have H2:Hid (∃ vp pv,HW w2 W.heap.size (W.heap.size+1) W.heap.size P3 vp pv):=hw;have B2:Hid (Bw W w2):=hb;clear hb hw HN))
 go_loopw [5] (fun iv wr=>∃ (i:Nat),iv=.int .i64 i∧i≤L∧Hid (∃ vp pv,HW wr W.heap.size (W.heap.size+1) W.heap.size (wld (l.take i)) vp pv)∧Hid (Bw W wr)) (fun iv _=>L - (intOf iv).toNat)
 case atStart=>exact ⟨0,rfl,Nat.zero_le _,H2,B2⟩
 case round =>
  clear H2 B2
  obtain ⟨i,rfl,hi,hHW,hB⟩:=hrel
  by_cases hlt:i<L
  ·obtain ⟨c,hc⟩:∃ c,l[i]?=some c:=⟨_,List.getElem?_eq_getElem (by rw [HL.out];exact hlt)⟩
   obtain ⟨bk,o,rfl,hbk,hcl⟩:=HI.out (fun e=>by rw [e] at hc;simp at hc)
   obtain ⟨vi,vm,hcell,hin⟩:=hcl i c hc
   have bel:Bw W wr:=hB.out
   have p0:wr.cell? ⟨bk,o+i * 6,none⟩=some (.string c.nm):=(bel.cell (p:=⟨bk,o+i * 6,none⟩) hbk).trans (hcell 0 _ rfl)
   have p1:wr.cell? ⟨bk,o+i * 6+1,none⟩=some (.string c.su):=(bel.cell (p:=⟨bk,o+i * 6+1,none⟩) hbk).trans (hcell 1 _ rfl)
   have p2:wr.cell? ⟨bk,o+i * 6+2,none⟩=some vi:=(bel.cell (p:=⟨bk,o+i * 6+2,none⟩) hbk).trans (hcell 2 _ rfl)
   have p3:wr.cell? ⟨bk,o+i * 6+3,none⟩=some (.int .i64 c.fl):=(bel.cell (p:=⟨bk,o+i * 6+3,none⟩) hbk).trans (hcell 3 _ rfl)
   have p4:wr.cell? ⟨bk,o+i * 6+4,none⟩=some (.int .i64 c.ld):=(bel.cell (p:=⟨bk,o+i * 6+4,none⟩) hbk).trans (hcell 4 _ rfl)
   have p5:wr.cell? ⟨bk,o+i * 6+5,none⟩=some vm:=(bel.cell (p:=⟨bk,o+i * 6+5,none⟩) hbk).trans (hcell 5 _ rfl)
   have hWI:WI (wld (l.take i)):=Zi4 _ (fun c hc=>HCW.out c (List.mem_of_mem_take hc))
   have HD:Hid (Calls Tryz.prog 14 #[.pointer (some ⟨W.heap.size+1,0,none⟩),.agg #[.string c.nm,.string c.su,vi,.int .i64 c.fl,.int .i64 c.ld,vm]] wr fun e w'=>(∃ u,e=.returned u)∧Hid (∃ vp pv,HW w' W.heap.size (W.heap.size+1) W.heap.size (wld (l.take (i+1))) vp pv)∧Hid (Bw W w')):=by
    obtain ⟨vp,pv,hw⟩:=hHW.out
    refine (Ziu W.heap.size (W.heap.size+1) W.heap.size _ vp pv c vi vm wr hw hB.out.size (hin.keep bel) hWI.nm).mono ?_
    rintro e w' ⟨rfl,hw',hb',_⟩
    rw [wld_at hc]
    exact ⟨⟨_,rfl⟩,hw',hB.out.trans hb'⟩
   clear hcl hcell hin hc bel hWI hHW hB HI
   go_wp2_with (go_at_call 14;refine HD.out.mono ?_;rintro e w3 ⟨⟨u3,rfl⟩,hw3,hb3⟩;clear HD)
   go_roundw
   case rel=>exact ⟨i+1,by go_num,by omega,hw3,hb3⟩
   case measure=>simp [intOf];omega
  ·have e:i=L:=by omega
   subst e
   have HF:Hid (WAt (W.heap.size+1) (wld l) wr):=by
    obtain ⟨vp,pv,hw⟩:=hHW.out
    rw [List.take_of_length_le (by rw [HL.out];exact Nat.le_refl _)] at hw
    exact hw.wat
   clear hHW HI
   have HL2:Hid (∀ (b:Nat) (w:World),Calls Tryz.prog 32 #[.pointer (some ⟨b,0,none⟩)] w fun e w'=>e=.returned (.tuple #[.pointer (some ⟨w.heap.size+1,0,none⟩),.int .i64 0])∧w'.cell? ⟨w.heap.size+1,0,none⟩=some (.pointer (some ⟨b,0,none⟩))∧w.heap.size+2≤w'.heap.size∧Bw w w'):=lnew_h
   go_wp2_with (first
    | (go_at_call 32;refine (HL2.out _ _).mono ?_;rintro e w5 ⟨rfl,hc,hz5,hb⟩;have B5:Hid (Bw wr w5):=hb;have C5:Hid _:=hc;clear hb hc HL2)
    | (go_at_call 33;refine (hnew_c _ _ _ C5.out).mono ?_;rintro e w6 ⟨rfl,hp,hb,hz6⟩;have P6:Hid _:=hp;have B6:Hid (Bw w5 w6):=hb;clear hp hb))
   go_ret2
   exact ⟨_,_,wr,rfl,hB.out,HF.out,Za B5.out B6.out,by omega,P6.out⟩
theorem clss_nil (W:World):J3 W (.slice none 0 0) []:=⟨none,0,rfl,Nat.le_refl _,Nat.zero_le _,fun h=>absurd rfl h⟩
theorem own_sz {S:Nat→Prop} {V W w:World} (h:Tch S W w) (hl:Bw V W) (hs:∀ k,S k→V.heap.size≤k):Bw V w:=hl.trans (h.below hl.size hs)
theorem awk_1:aryE P3 [] 0 ⟨#[]⟩ 3=0:=by decide +kernel
theorem awk_2:aryN P3 [] 0 ⟨#[]⟩ 3=1:=by rw [aryN,awk_1];rfl
theorem awk_3:aryL P3 [] 0 ⟨#[]⟩ 3=[(1,⟨#[]⟩,[0,0,0])]:=by rw [aryL,awk_1];rfl
theorem Zk8 (W:World):Calls Tryz.prog 5 #[] W fun e w'=>e=.returned (.bool true)∧Bw W w':=by
 have HO:Hid (∀ w:World,Calls Tryz.prog 6 #[.slice none 0 0] w fun e w'=>∃ b hb V,e=.returned (.tuple #[.pointer (some ⟨b,0,none⟩),.pointer (some ⟨hb,0,none⟩)])∧Bw w V∧WAt b (wld []) V∧Bw V w'∧V.heap.size≤hb∧HpAt w' (fun k=>k=hb) hb b (.slice none 0 0) []):=fun w=>Zg2 _ [] w (clss_nil w)
 go_enter Tryz.func5,Tryz.ntmps5
 go_wp2_with (first
  | (go_at_call 6;refine (HO.out _).mono ?_;rintro e w1 ⟨b,hb,V,rfl,hb1,hw1,hb2,hz1,hp1⟩;have B1:Hid (Bw W V):=hb1;have B2:Hid (Bw V w1):=hb2;have W1:Hid (WAt b (wld []) V):=hw1;have P1:Hid (HpAt w1 (fun k=>k=hb) hb b (.slice none 0 0) []):=hp1;clear hb1 hw1 hb2 hp1 HO)
  | (go_at_call 29;refine (Zk9 P1.out (W1.out.below B2.out) 0 ⟨#[]⟩ (Nat.zero_le _) 3).mono ?_;rintro e w2 ⟨rfl,new,hn,hm⟩;have N2:Hid (HpN (fun k=>k=hb) w1 w2 hb b ([]++new)):=hn;have M2:Hid (new.map Ob.p=aryL (wld []) [] 0 ⟨#[]⟩ 3):=hm;rw [show aryN (wld []) [] 0 ⟨#[]⟩ 3=1 from awk_2,show aryE (wld []) [] 0 ⟨#[]⟩ 3=0 from awk_1];clear hn hm)
  | (go_at_call 30;refine (hlen_c N2.out.1.choose_spec).mono ?_;rintro e w3 ⟨rfl,hw⟩;obtain rfl:=hw.symm;rw [show (([]++new:List Ob).length:Int)=1 by (have h1:=congrArg List.length M2.out;rw [show aryL (wld []) [] 0 ⟨#[]⟩ 3=[(1,⟨#[]⟩,[0,0,0])] from awk_3] at h1;simp at h1;simp [h1])])
  | (go_at_call 31;refine (hwds_c N2.out.1.choose_spec).mono ?_;rintro e w3 ⟨rfl,hw⟩;obtain rfl:=hw.symm;rw [show (wdL ([]++new):Int)=3 by (have h1:=congrArg wdP M2.out;rw [Zco,show aryL (wld []) [] 0 ⟨#[]⟩ 3=[(1,⟨#[]⟩,[0,0,0])] from awk_3] at h1;simp [wdP] at h1;simp [h1])]))
 go_ret
 exact ⟨rfl,Za B1.out (own_sz N2.out.2 B2.out (fun k hk=>by rw [hk];exact hz1))⟩
def Kx (X:World) (hb:Nat) (w:World):Prop:=w.os=X.os∧w.tape=X.tape∧w.output=X.output∧X.heap.size≤w.heap.size∧∀ j,j<X.heap.size→j≠hb→w.heap[j]?=X.heap[j]?
structure Env (W X:World) (hb b xb:Nat) (ps:List Plc) (cs:List Cls):Prop where
 hT:TwW cs ps
 hJ:WJ ps
 hB:∀ q∈ps,PlcB q
 hn:cs.length≤300
 wx:W.heap.size≤X.heap.size
 kp:∀ w,Kx X hb w→WAt b ps w∧RAt xb cs w∧Bw W w
structure Bo (X:World) (hb b rb xb:Nat) (S S':Nat→Prop) (os:List Ob) (es:List Dv) (v:World):Prop where
 a:∃ ov,HpAt v S hb b ov os
 r:∃ tv ev,RhAt v S' rb xb tv ev es
 dj:∀ j,S j→¬ S' j
 lo:∀ j,S j→j=hb∨X.heap.size≤j
 lo':∀ j,S' j→X.heap.size≤j
 kx:Kx X hb v
section
variable {X v w:World} {hb b rb xb:Nat} {S S':Nat→Prop} {os os':List Ob} {es es':List Dv}
theorem Bo.sz (h:Bo X hb b rb xb S S' os es v) (j:Nat) (hj:S j):j<v.heap.size:=by obtain ⟨ov,h1⟩:=h.a;exact h1.sz j hj
theorem Bo.sz' (h:Bo X hb b rb xb S S' os es v) (j:Nat) (hj:S' j):j<v.heap.size:=by obtain ⟨tv,ev,h1⟩:=h.r;exact h1.sz j hj
theorem Kx.bel (h:Kx X hb v) (hl:Bw v w):Kx X hb w:=by
 obtain ⟨h1,h2,h3,h4,h5⟩:=h
 have:=hl.size
 exact ⟨hl.os.trans h1,hl.tape.trans h2,hl.output.trans h3,by omega,fun j hj hne=>(hl.block j (by omega)).trans (h5 j hj hne)⟩
theorem Kx.tch (h:Kx X hb v) (T:Tch S v w) (lo:∀ j,S j→j=hb∨X.heap.size≤j):Kx X hb w:=by
 obtain ⟨h1,h2,h3,h4,h5⟩:=h
 have:=T.size
 exact ⟨T.os.trans h1,T.tape.trans h2,T.output.trans h3,by omega,fun j hj hne=>(T.blk j (by omega) (fun x=>(lo j x).elim hne (fun y=>by omega))).trans (h5 j hj hne)⟩
theorem Bo.bel (h:Bo X hb b rb xb S S' os es v) (hl:Bw v w):Bo X hb b rb xb S S' os es w:=by
 obtain ⟨⟨ov,h1⟩,⟨tv,ev,h2⟩,h3,h4,h5,h6⟩:=h
 exact ⟨⟨ov,h1.below hl⟩,⟨tv,ev,h2.below hl⟩,h3,h4,h5,h6.bel hl⟩
theorem Bo.stepA (h:Bo X hb b rb xb S S' os es v) (hn:HpN S v w hb b os'):Bo X hb b rb xb (gS S v.heap.size w.heap.size) S' os' es w:=by
 obtain ⟨⟨ov,h1⟩,⟨tv,ev,h2⟩,h3,h4,h5,h6⟩:=h
 obtain ⟨⟨ov',k1⟩,T⟩:=hn
 have hz:=h6.2.2.2.1
 refine ⟨⟨ov',k1⟩,⟨tv,ev,h2.keep T.size (fun k hk hs=>T.blk k hk (fun x=>h3 k x hs))⟩,fun j hj x=>hj.elim (fun y=>h3 j y x) (fun y=>by have:=h2.sz j x;omega),fun j hj=>hj.elim (h4 j) (fun y=>.inr (by omega)),h5,h6.tch T h4⟩
theorem Bo.stepB (h:Bo X hb b rb xb S S' os es v) (hn:RhN S' v w rb xb es'):Bo X hb b rb xb S (gS S' v.heap.size w.heap.size) os es' w:=by
 obtain ⟨⟨ov,h1⟩,⟨tv,ev,h2⟩,h3,h4,h5,h6⟩:=h
 obtain ⟨⟨tv',ev',k1⟩,T⟩:=hn
 have hz:=h6.2.2.2.1
 refine ⟨⟨ov,h1.keep T.size (fun k hk hs=>T.blk k hk (fun x=>h3 k hs x))⟩,⟨tv',ev',k1⟩,fun j hj x=>x.elim (fun y=>h3 j hj y) (fun y=>by have:=h1.sz j hj;omega),h4,fun j hj=>hj.elim (h5 j) (fun y=>by omega),h6.tch T (fun j hj=>.inr (h5 j hj))⟩
end
def Tk (X:World) (hb b rb xb:Nat) (K:Nat→Prop) (U:World) (os:List Ob) (es:List Dv) (v:World):Prop:=∃ S S',Bo X hb b rb xb S S' os es v∧∀ j,K j→¬ S j∧¬ S' j∧j<v.heap.size∧v.heap[j]?=U.heap[j]?
def Pr (X:World) (hb b rb xb:Nat) (v:World):Prop:=∃ os es,Tk X hb b rb xb (fun _=>False) v os es v∧Lk os es∧Gd os
section
variable {X v w U:World} {hb b rb xb:Nat} {K:Nat→Prop} {os os':List Ob} {es es':List Dv}
theorem Tk.kx (h:Tk X hb b rb xb K U os es v):Kx X hb v:=by obtain ⟨S,S',h1,_⟩:=h;exact h1.kx
theorem Tk.at (h:Tk X hb b rb xb K U os es v) {j:Nat} (hj:K j):v.heap[j]?=U.heap[j]?:=by obtain ⟨S,S',h1,h2⟩:=h;exact (h2 j hj).2.2.2
theorem Tk.lt (h:Tk X hb b rb xb K U os es v) {j:Nat} (hj:K j):j<v.heap.size:=by obtain ⟨S,S',h1,h2⟩:=h;exact (h2 j hj).2.2.1
theorem Tk.bel (h:Tk X hb b rb xb K U os es v) (hl:Bw v w):Tk X hb b rb xb K U os es w:=by
 obtain ⟨S,S',h1,h2⟩:=h
 have:=hl.size
 exact ⟨S,S',h1.bel hl,fun j hj=>⟨(h2 j hj).1,(h2 j hj).2.1,by have:=(h2 j hj).2.2.1;omega,(hl.block j (h2 j hj).2.2.1).trans (h2 j hj).2.2.2⟩⟩
theorem Tk.new (h:Tk X hb b rb xb K U os es v) (hl:Bw v w):Tk X hb b rb xb (fun j=>K j∨(v.heap.size≤j∧j<w.heap.size)) w os es w:=by
 obtain ⟨S,S',h1,h2⟩:=h
 have hz:=hl.size
 refine ⟨S,S',h1.bel hl,fun j hj=>?_⟩
 rcases hj with hj|hj
 ·exact ⟨(h2 j hj).1,(h2 j hj).2.1,by have:=(h2 j hj).2.2.1;omega,rfl⟩
 ·exact ⟨fun x=>by have:=h1.sz j x;omega,fun x=>by have:=h1.sz' j x;omega,hj.2,rfl⟩
theorem Tk.pr (h:Tk X hb b rb xb K U os es v) (hL:Lk os es) (hG:Gd os):Pr X hb b rb xb v:=by
 obtain ⟨S,S',h1,_⟩:=h
 exact ⟨os,es,⟨S,S',h1,fun _ hj=>hj.elim⟩,hL,hG⟩
theorem Pr.bel (h:Pr X hb b rb xb v) (hl:Bw v w):Pr X hb b rb xb w:=by
 obtain ⟨os,es,h1,h2,h3⟩:=h
 exact (h1.bel hl).pr h2 h3
theorem Pr.kx (h:Pr X hb b rb xb v):Kx X hb v:=by obtain ⟨os,es,h1,_⟩:=h;exact h1.kx
theorem Tk.A {f:Nat} {args:Array Value} {u:Value} {P:List Ob→Prop} (h:Tk X hb b rb xb K U os es v) (hc:∀ S ov,HpAt v S hb b ov os→(∀ j,K j→¬ S j)→Calls Tryz.prog f args v fun e w'=>e=.returned u∧∃ os',HpN S v w' hb b os'∧P os'):Calls Tryz.prog f args v fun e w'=>e=.returned u∧∃ os',P os'∧Tk X hb b rb xb K U os' es w':=by
 obtain ⟨S,S',h1,h2⟩:=h
 obtain ⟨ov,h3⟩:=h1.a
 refine (hc S ov h3 (fun j hj=>(h2 j hj).1)).mono fun e w' ⟨x,os',hn,hp⟩=>⟨x,os',hp,_,S',h1.stepA hn,fun j hj=>?_⟩
 obtain ⟨k1,k2,k3,k4⟩:=h2 j hj
 have:=hn.2.size
 exact ⟨fun y=>y.elim k1 (fun z=>by omega),k2,by omega,(hn.2.blk j k3 k1).trans k4⟩
theorem Tk.B {f:Nat} {args:Array Value} {u:Value} {P:List Dv→Prop} (h:Tk X hb b rb xb K U os es v) (hc:∀ S tv ev,RhAt v S rb xb tv ev es→(∀ j,S j→X.heap.size≤j)→Calls Tryz.prog f args v fun e w'=>e=.returned u∧∃ es',RhN S v w' rb xb es'∧P es'):Calls Tryz.prog f args v fun e w'=>e=.returned u∧∃ es',P es'∧Tk X hb b rb xb K U os es' w':=by
 obtain ⟨S,S',h1,h2⟩:=h
 obtain ⟨tv,ev,h3⟩:=h1.r
 refine (hc S' tv ev h3 h1.lo').mono fun e w' ⟨x,es',hn,hp⟩=>⟨x,es',hp,S,_,h1.stepB hn,fun j hj=>?_⟩
 obtain ⟨k1,k2,k3,k4⟩:=h2 j hj
 have:=hn.2.size
 exact ⟨k1,fun y=>y.elim k2 (fun z=>by omega),by omega,(hn.2.blk j k3 k2).trans k4⟩
theorem Tk.RA {f:Nat} {args:Array Value} {u:Value} (h:Tk X hb b rb xb K U os es v) (hc:∀ S ov,HpAt v S hb b ov os→Calls Tryz.prog f args v fun e w'=>e=.returned u∧Bw v w'):Calls Tryz.prog f args v fun e w'=>e=.returned u∧Tk X hb b rb xb K U os es w':=by
 have h0:=h
 obtain ⟨S,S',h1,h2⟩:=h
 obtain ⟨ov,h3⟩:=h1.a
 exact (hc S ov h3).mono fun e w' x=>⟨x.1,h0.bel x.2⟩
theorem Tk.RB {f:Nat} {args:Array Value} {u:Value} (h:Tk X hb b rb xb K U os es v) (hc:∀ S tv ev,RhAt v S rb xb tv ev es→Calls Tryz.prog f args v fun e w'=>e=.returned u∧Bw v w'):Calls Tryz.prog f args v fun e w'=>e=.returned u∧Tk X hb b rb xb K U os es w':=by
 have h0:=h
 obtain ⟨S,S',h1,h2⟩:=h
 obtain ⟨tv,ev,h3⟩:=h1.r
 exact (hc S' tv ev h3).mono fun e w' x=>⟨x.1,h0.bel x.2⟩
end
def oBh (kd a bb:Int) (r:Bool) (n d:Int) (nm:ByteArray) (lv:Value):Obj:=.cells #[.int .i64 kd,.int .i64 a,.int .i64 bb,.bool r,.int .i64 n,.int .i64 d,.string nm,lv] 43 (0,0)
theorem r8h {w:World} {j:Nat} {kd a bb:Int} {r:Bool} {n d:Int} {nm:ByteArray} {lv:Value} (h:w.heap[j]?=some (oBh kd a bb r n d nm lv)):w.cell? ⟨j,0,none⟩=some (.int .i64 kd)∧w.cell? ⟨j,1,none⟩=some (.int .i64 a)∧w.cell? ⟨j,2,none⟩=some (.int .i64 bb)∧w.cell? ⟨j,3,none⟩=some (.bool r)∧w.cell? ⟨j,4,none⟩=some (.int .i64 n)∧w.cell? ⟨j,5,none⟩=some (.int .i64 d)∧w.cell? ⟨j,6,none⟩=some (.string nm)∧w.cell? ⟨j,7,none⟩=some lv∧j<w.heap.size :=
 ⟨(cell_of_row w j 0 _ _ _ h).trans rfl,(cell_of_row w j 1 _ _ _ h).trans rfl,(cell_of_row w j 2 _ _ _ h).trans rfl,(cell_of_row w j 3 _ _ _ h).trans rfl,(cell_of_row w j 4 _ _ _ h).trans rfl,(cell_of_row w j 5 _ _ _ h).trans rfl,(cell_of_row w j 6 _ _ _ h).trans rfl,(cell_of_row w j 7 _ _ _ h).trans rfl,(Array.getElem?_eq_some_iff.1 h).1⟩
theorem Pr.box {X v:World} {hb b rb xb:Nat} (h:Pr X hb b rb xb v) (o:Obj):∃ os es,Tk X hb b rb xb (fun j=>j=v.heap.size) (v.alloc o) os es (v.alloc o)∧Lk os es∧Gd os:=by
 obtain ⟨os,es,⟨S,S',h1,_⟩,h2,h3⟩:=h
 refine ⟨os,es,⟨S,S',h1.bel ((Below.refl _ _).alloc (Nat.le_refl _) _),fun j hj=>?_⟩,h2,h3⟩
 subst hj
 exact ⟨fun x=>by have:=h1.sz _ x;omega,fun x=>by have:=h1.sz' _ x;omega,by simp,rfl⟩
theorem sameI_c (l:List Int) (K:Nat) (a1 a2:Option Addr) (c1 c2:Nat) (W:World) (HK:Hid (l.length=K)) (hn:K≤17592186044416) (k1:∀ (i:Nat) (x:Int),l[i]?=some x→∃ bk o,a1=some ⟨bk,o,none⟩∧bk<W.heap.size∧W.cell? ⟨bk,o+i,none⟩=some (.int .i64 x)) (k2:∀ (i:Nat) (x:Int),l[i]?=some x→∃ bk o,a2=some ⟨bk,o,none⟩∧bk<W.heap.size∧W.cell? ⟨bk,o+i,none⟩=some (.int .i64 x)) :
 Calls Tryz.prog 28 #[.slice a1 K c1,.slice a2 K c2] W fun e w'=>e=.returned (.bool true)∧Bw W w':=by
 have K1:Hid _:=k1
 have K2:Hid _:=k2
 clear k1 k2
 go_enter Tryz.func28,Tryz.ntmps28
 go_wp2
 go_loopw [5] (fun iv wr=>∃ i:Nat,iv=.int .i64 i∧i≤K∧Hid (Bw W wr)) (fun iv _=>K - (intOf iv).toNat)
 case atStart=>exact ⟨0,rfl,Nat.zero_le _,Below.refl _ _⟩
 case round =>
  obtain ⟨i,rfl,hi,hb⟩:=hrel
  by_cases hlt:i<K
  ·obtain ⟨x,hx⟩:∃ x,l[i]?=some x:=⟨_,List.getElem?_eq_getElem (by rw [HK.out];exact hlt)⟩
   obtain ⟨g1,o1,rfl,l1,q1⟩:=K1.out i x hx
   obtain ⟨g2,o2,rfl,l2,q2⟩:=K2.out i x hx
   have hiI:(i:Int)<(K:Int):=by omega
   obtain ⟨σ,V,hne,V1,V2⟩:=class_of' (fun w'=>Bw W w') ⟨_,Below.refl _ _⟩
   have kp:∀ (s:σ) (bb j:Nat) (v:Value),bb<W.heap.size→W.cell? ⟨bb,j,none⟩=some v→(V s).cell? ⟨bb,j,none⟩=some v:=fun s bb j v hl h=>((V1.out s).cell (p:=⟨bb,j,none⟩) hl).trans h
   replace q1:=fun s=>kp s _ _ _ l1 q1
   replace q2:=fun s=>kp s _ _ _ l2 q2
   clear hx K1 K2 kp
   go_wp2
   refine Zc (C:=fun w'=>∃ s,w'=V s) (by kernel_rfl) (by kernel_rfl) (V2.out _ (hb.out.drew)) ?_
   repeat (go_big_quiet_step (fail))
   refine wpQuiet_nil ?_
   intro w9 hw9
   obtain ⟨s9,rfl⟩:=hw9
   have B9:Hid (Bw W (V s9)):=V1.out s9
   go_wp2
   go_roundw
   case rel=>exact ⟨i+1,by go_num,by omega,B9⟩
   case measure=>simp [intOf];omega
  ·have hiI:¬ (i:Int)<(K:Int):=by omega
   go_wp2
   exact bodyPost_ret (results_tmp rfl _ _ _) rfl ⟨rfl,hb.out⟩
theorem ag_obj {W X v:World} {hb b rb xb:Nat} {ps:List Plc} {cs:List Cls} (E:Env W X hb b xb ps cs) (h:Pr X hb b rb xb v) (a c:Int) (r:Bool) (n d:Int) (nm:ByteArray) (lv:Value):Calls Tryz.prog 8 #[.agg #[.int .i64 1,.int .i64 a,.int .i64 c,.bool r,.int .i64 n,.int .i64 d,.string nm,lv],.pointer (some ⟨hb,0,none⟩),.pointer (some ⟨rb,0,none⟩)] v fun e w'=>e=.returned (.bool true)∧Pr X hb b rb xb w':=by
 obtain ⟨os,es,t0,lk,gd⟩:=h.box (oBh 1 a c r n d nm lv)
 obtain ⟨U,hU⟩:∃ U,v.alloc (oBh 1 a c r n d nm lv)=U:=⟨_,rfl⟩
 have HU:Hid (v.alloc (oBh 1 a c r n d nm lv)=U):=hU
 have hob:U.heap[v.heap.size]?=some (oBh 1 a c r n d nm lv):=by rw [← hU];exact Zg _ _
 have T0:Hid (Tk X hb b rb xb (fun j=>j=v.heap.size) U os es (v.alloc (oBh 1 a c r n d nm lv))):=by rw [hU] at t0 ⊢;exact t0
 obtain ⟨x,hx⟩:∃ x,obnN ps os a=x:=⟨_,rfl⟩
 obtain ⟨y,hy⟩:∃ y,obnE ps os a=y:=⟨_,rfl⟩
 obtain ⟨P,hP⟩:∃ P:List Ob→Prop,P=fun os'=>os'=obnL ps os a:=⟨_,rfl⟩
 obtain ⟨Q,hQ⟩:∃ Q:List Dv→Prop,Q=fun es'=>es'=dobL cs es a:=⟨_,rfl⟩
 have HA:Hid (∀ w,Tk X hb b rb xb (fun j=>j=v.heap.size) U os es w→Calls Tryz.prog 34 #[.pointer (some ⟨hb,0,none⟩),.int .i64 a] w fun e w'=>e=.returned (.tuple #[.int .i64 x,.int .i64 y])∧∃ os',P os'∧Tk X hb b rb xb (fun j=>j=v.heap.size) U os' es w'):=fun w t=>t.A (fun S ov hp hK=>by
  rw [hP,← hx,← hy]
  obtain ⟨ew,er,eb⟩:=E.kp w t.kx
  exact (object_c hp ew E.hB a).mono fun e w' ⟨q1,q2⟩=>⟨q1,_,q2,rfl⟩)
 have HB:Hid (∀ w os',Tk X hb b rb xb (fun j=>j=v.heap.size) U os' es w→Calls Tryz.prog 35 #[.pointer (some ⟨rb,0,none⟩),.int .i64 a] w fun e w'=>e=.returned (.tuple #[.int .i64 x,.int .i64 y])∧∃ es',Q es'∧Tk X hb b rb xb (fun j=>j=v.heap.size) U os' es' w'):=fun w os' t=>t.B (fun S tv ev hr lo=>by
  rw [hQ,← hx,← hy]
  obtain ⟨ew,er,eb⟩:=E.kp w t.kx
  rw [← (lk.obj E.hT a).1,← (lk.obj E.hT a).2.1];exact (object_d hr er a).mono fun e w' ⟨q1,q2⟩=>⟨q1,_,q2,rfl⟩)
 have HF:Hid (∀ os' es',P os'→Q es'→Lk os' es'∧Gd os'):=fun os' es' h1 h2=>by
  rw [hP] at h1
  rw [hQ] at h2
  subst h1 h2;exact ⟨(lk.obj E.hT a).2.2,gd.obj E.hT.wi a⟩
 unfold oBh at T0 hob
 clear hx hy h hP hQ t0 lk gd hU E
 go_enter Tryz.func8,Tryz.ntmps8
 go_wp2_with (first
  | (go_at_call 35;refine (HB.out _ _ T1.out).mono ?_;rintro e w3 ⟨rfl,es3,hq,t2⟩;have HQ3:Hid _:=hq;have T2:Hid _:=t2;clear t2 hq)
  | (go_at_call 34;refine (HA.out _ T0.out).mono ?_;rintro e w2 ⟨rfl,os2,hp,t1⟩;have HP2:Hid _:=hp;have T1:Hid (Tk X hb b rb xb (fun j=>j=v.heap.size) U os2 es w2):=t1;obtain ⟨y0,y1,y2,y3,y4,y5,y6,y7,yL⟩:=r8h ((t1.at rfl).trans hob);clear t1 hp))
 go_ret
 exact ⟨Zb (by simp),Tk.pr T2.out (HF.out _ _ HP2.out HQ3.out).1 (HF.out _ _ HP2.out HQ3.out).2⟩
theorem aryL_gd {ps:List Plc} {os:List Ob} {d:Int} {nm:ByteArray} (hz:nm.size≤maxLen) {n:Int}:∀ p∈aryL ps os d nm n,0≤p.1∧p.2.1.size≤maxLen:=by
 intro p hp
 unfold aryL at hp
 split at hp
 ·rename_i h0
  simp at hp
  subst hp
  rw [aryE] at h0
  split at h0
  ·rename_i h1
   obtain ⟨k,rfl,_⟩:=arr_E0 h1
   exact ⟨by simp only;omega,hz⟩
  ·rename_i h1;exact absurd h0 h1
 ·cases hp
theorem ag_ary {W X v:World} {hb b rb xb:Nat} {ps:List Plc} {cs:List Cls} (E:Env W X hb b xb ps cs) (h:Pr X hb b rb xb v) (a c:Int) (r:Bool) (n d:Int) (nm:ByteArray) (lv:Value) (hz:nm.size≤maxLen):Calls Tryz.prog 8 #[.agg #[.int .i64 2,.int .i64 a,.int .i64 c,.bool r,.int .i64 n,.int .i64 d,.string nm,lv],.pointer (some ⟨hb,0,none⟩),.pointer (some ⟨rb,0,none⟩)] v fun e w'=>e=.returned (.bool true)∧Pr X hb b rb xb w':=by
 obtain ⟨os,es,t0,lk,gd⟩:=h.box (oBh 2 a c r n d nm lv)
 obtain ⟨U,hU⟩:∃ U,v.alloc (oBh 2 a c r n d nm lv)=U:=⟨_,rfl⟩
 have HU:Hid (v.alloc (oBh 2 a c r n d nm lv)=U):=hU
 have hob:U.heap[v.heap.size]?=some (oBh 2 a c r n d nm lv):=by rw [← hU];exact Zg _ _
 have T0:Hid (Tk X hb b rb xb (fun j=>j=v.heap.size) U os es (v.alloc (oBh 2 a c r n d nm lv))):=by rw [hU] at t0 ⊢;exact t0
 obtain ⟨x,hx⟩:∃ x,aryN ps os d nm a=x:=⟨_,rfl⟩
 obtain ⟨y,hy⟩:∃ y,aryE ps os d nm a=y:=⟨_,rfl⟩
 obtain ⟨P,hP⟩:∃ P:List Ob→Prop,P=fun os'=>∃ no,os'=os++no∧no.map Ob.p=aryL ps os d nm a:=⟨_,rfl⟩
 obtain ⟨Q,hQ⟩:∃ Q:List Dv→Prop,Q=fun es'=>∃ ne,es'=es++ne∧ne.map Dv.q=(aryL ps os d nm a).map poQ:=⟨_,rfl⟩
 have HA:Hid (∀ w,Tk X hb b rb xb (fun j=>j=v.heap.size) U os es w→Calls Tryz.prog 29 #[.pointer (some ⟨hb,0,none⟩),.agg #[.int .i64 d,.string nm],.int .i64 a] w fun e w'=>e=.returned (.tuple #[.int .i64 x,.int .i64 y])∧∃ os',P os'∧Tk X hb b rb xb (fun j=>j=v.heap.size) U os' es w'):=fun w t=>t.A (fun S ov hp hK=>by
  rw [hP,← hx,← hy]
  obtain ⟨ew,er,eb⟩:=E.kp w t.kx
  exact (Zk9 hp ew d nm hz a).mono fun e w' ⟨q1,no,q2,q3⟩=>⟨q1,_,q2,no,rfl,q3⟩)
 have HB:Hid (∀ w os',Tk X hb b rb xb (fun j=>j=v.heap.size) U os' es w→Calls Tryz.prog 36 #[.pointer (some ⟨rb,0,none⟩),.agg #[.int .i64 d,.string nm],.int .i64 a] w fun e w'=>e=.returned (.tuple #[.int .i64 x,.int .i64 y])∧∃ es',Q es'∧Tk X hb b rb xb (fun j=>j=v.heap.size) U os' es' w'):=fun w os' t=>t.B (fun S tv ev hr lo=>by
  rw [hQ,← hx,← hy]
  obtain ⟨ew,er,eb⟩:=E.kp w t.kx
  refine (array_d hr er E.hn d nm hz a).mono fun e w' ⟨q1,ne,q2,q3⟩=>⟨?_,_,q2,ne,rfl,?_⟩
  ·rw [q1,lk.ary E.hT,lk.len];rfl
  ·rw [q3,lk.ary E.hT,aryL];split <;> simp [poQ,toQ])
 have HF:Hid (∀ os' es',P os'→Q es'→Lk os' es'∧Gd os'):=fun os' es' h1 h2=>by
  rw [hP] at h1
  rw [hQ] at h2
  obtain ⟨no,rfl,h3⟩:=h1
  obtain ⟨ne,rfl,h4⟩:=h2
  refine ⟨lk.app (by rw [h3,h4]),gd.app (by rw [h3];exact aryL_gd hz)⟩
 unfold oBh at T0 hob
 clear hx hy h hP hQ t0 lk gd hU E
 go_enter Tryz.func8,Tryz.ntmps8
 go_wp2_with (first
  | (go_at_call 36;refine (HB.out _ _ T1.out).mono ?_;rintro e w3 ⟨rfl,es3,hq,t2⟩;have HQ3:Hid _:=hq;have T2:Hid _:=t2;clear t2 hq)
  | (go_at_call 29;refine (HA.out _ T0.out).mono ?_;rintro e w2 ⟨rfl,os2,hp,t1⟩;have HP2:Hid _:=hp;have T1:Hid (Tk X hb b rb xb (fun j=>j=v.heap.size) U os2 es w2):=t1;obtain ⟨y0,y1,y2,y3,y4,y5,y6,y7,yL⟩:=r8h ((t1.at rfl).trans hob);clear t1 hp))
 go_ret
 exact ⟨Zb (by simp),Tk.pr T2.out (HF.out _ _ HP2.out HQ3.out).1 (HF.out _ _ HP2.out HQ3.out).2⟩
theorem ag_get {W X v:World} {hb b rb xb:Nat} {ps:List Plc} {cs:List Cls} (_E:Env W X hb b xb ps cs) (h:Pr X hb b rb xb v) (a c:Int) (r:Bool) (n d:Int) (nm:ByteArray) (lv:Value):Calls Tryz.prog 8 #[.agg #[.int .i64 5,.int .i64 a,.int .i64 c,.bool r,.int .i64 n,.int .i64 d,.string nm,lv],.pointer (some ⟨hb,0,none⟩),.pointer (some ⟨rb,0,none⟩)] v fun e w'=>e=.returned (.bool true)∧Pr X hb b rb xb w':=by
 obtain ⟨os,es,t0,lk,gd⟩:=h.box (oBh 5 a c r n d nm lv)
 obtain ⟨U,hU⟩:∃ U,v.alloc (oBh 5 a c r n d nm lv)=U:=⟨_,rfl⟩
 have HU:Hid (v.alloc (oBh 5 a c r n d nm lv)=U):=hU
 have hob:U.heap[v.heap.size]?=some (oBh 5 a c r n d nm lv):=by rw [← hU];exact Zg _ _
 have T0:Hid (Tk X hb b rb xb (fun j=>j=v.heap.size) U os es (v.alloc (oBh 5 a c r n d nm lv))):=by rw [hU] at t0 ⊢;exact t0
 obtain ⟨p,hp⟩:∃ p,geR os a c=p:=⟨_,rfl⟩
 obtain ⟨q,hq⟩:∃ q,geN os a c=q:=⟨_,rfl⟩
 obtain ⟨x,hx⟩:∃ x,geE os a c=x:=⟨_,rfl⟩
 obtain ⟨g1,g2,g3⟩:=lk.gt gd a c
 have HA:Hid (∀ w,Tk X hb b rb xb (fun j=>j=v.heap.size) U os es w→Calls Tryz.prog 44 #[.pointer (some ⟨hb,0,none⟩),.int .i64 a,.int .i64 c] w fun e w'=>e=.returned (.tuple #[.agg #[.bool p,.int .i64 q],.int .i64 x])∧Tk X hb b rb xb (fun j=>j=v.heap.size) U os es w'):=fun w t=>t.RA (fun S ov o=>by rw [← hx,← hp,← hq];exact get_c o a c)
 have HB:Hid (∀ w K U,Tk X hb b rb xb K U os es w→Calls Tryz.prog 45 #[.pointer (some ⟨rb,0,none⟩),.int .i64 a,.int .i64 c] w fun e w'=>e=.returned (.tuple #[.agg #[.bool p,.int .i64 q],.int .i64 x])∧Tk X hb b rb xb K U os es w'):=fun w K U t=>t.RB (fun S tv ev o=>by rw [← hx,← hp,← hq,← g1,← g2,← g3];exact get_d o a c)
 have HPR:Hid (∀ w K U,Tk X hb b rb xb K U os es w→Pr X hb b rb xb w):=fun w K U t=>t.pr lk gd
 unfold oBh at T0 hob
 clear hx hp hq g1 g2 g3 h t0 lk gd hU
 go_enter Tryz.func8,Tryz.ntmps8
 go_wp2_with (first
  | (go_at_call 45;refine (HB.out _ _ _ (T1.out.new ((Below.refl _ _).alloc (Nat.le_refl _) _))).mono ?_;rintro e w3 ⟨rfl,t2⟩;have T2:Hid (Pr X hb b rb xb w3):=HPR.out _ _ _ t2;obtain ⟨z0,z1,zf,zL⟩:=r2c ((t2.at (.inr ⟨Nat.le_refl _,by simp⟩)).trans (Zg _ _));have zN:¬ w2.heap.size=w3.heap.size:=Nat.ne_of_lt zL;clear t2)
  | (go_at_call 44;refine (HA.out _ T0.out).mono ?_;rintro e w2 ⟨rfl,t1⟩;have T1:Hid (Tk X hb b rb xb (fun j=>j=v.heap.size) U os es w2):=t1;obtain ⟨y0,y1,y2,y3,y4,y5,y6,y7,yL⟩:=r8h ((t1.at rfl).trans hob);have yN:¬ v.heap.size=w2.heap.size:=Nat.ne_of_lt yL;clear t1))
 go_ret
 exact ⟨Zb (by simp),Pr.bel T2.out ((Below.refl _ _).alloc (Nat.le_refl _) _)⟩
theorem callMuA (vs:Array Value) (w:World):(callFunc 37 vs).run Tryz.prog w=.ok (.enter 37 vs) w:=by simp [go_sem]
theorem stp3h {P:Program} {ops:Array Oper} {o:Oper} {a:Act} {w:World} {K:Act→World→Prop} {Q:Exit→Act→World→Prop} {E:Prop} (hg:o.guard=none) (f:Nat) (hf:∀ (vs:Array Value) (w:World),(callFunc f vs).run P w=.ok (.enter f vs) w) (x1 x2 x3:Operand) (t1 t2 t3:TypeId)
 (hop:o.op=Op.call { callee:=Callee.value (Operand.func f),args:=#[x1,x2,x3],argTypes:=#[t1,t2,t3] }) {R:Ending→World→Prop} (v1 v2 v3:Value) (hv1:a.eval x1=v1) (hv2:a.eval x2=v2) (hv3:a.eval x3=v3) (h:Calls P f #[v1,v2,v3] w R) (hR:∀ e w',R e w'→∃ u,e=.returned u∧K (a.put o.dst u) w') :
 if Region.wanted o (yielded ops a.tmps)=true then Oper.wp P o a w K Q else E:=by
 have hw:Region.wanted o (yielded ops a.tmps)=true:=by simp [Region.wanted,hg]
 rw [if_pos hw]
 unfold Oper.wp
 have e:(execOp a.eval o).run P w=.ok (.enter f #[v1,v2,v3]) w:=by
  simp [execOp,hop,resolve,invoke,hv1,hv2,hv3]
  simp [go_sem,hf]
 rw [e]
 refine h.mono fun e w' hr=>?_
 obtain ⟨u,rfl,hu⟩:=hR e w' hr
 exact hu
theorem ag_set {W X v:World} {hb b rb xb:Nat} {ps:List Plc} {cs:List Cls} (E:Env W X hb b xb ps cs) (h:Pr X hb b rb xb v) (a c:Int) (r:Bool) (n d:Int) (nm:ByteArray) (lv:Value):Calls Tryz.prog 8 #[.agg #[.int .i64 6,.int .i64 a,.int .i64 c,.bool r,.int .i64 n,.int .i64 d,.string nm,lv],.pointer (some ⟨hb,0,none⟩),.pointer (some ⟨rb,0,none⟩)] v fun e w'=>e=.returned (.bool true)∧Pr X hb b rb xb w':=by
 obtain ⟨os,es,t0,lk,gd⟩:=h.box (oBh 6 a c r n d nm lv)
 obtain ⟨U,hU⟩:∃ U,v.alloc (oBh 6 a c r n d nm lv)=U:=⟨_,rfl⟩
 have HU:Hid (v.alloc (oBh 6 a c r n d nm lv)=U):=hU
 have hob:U.heap[v.heap.size]?=some (oBh 6 a c r n d nm lv):=by rw [← hU];exact Zg _ _
 have T0:Hid (Tk X hb b rb xb (fun j=>j=v.heap.size) U os es (v.alloc (oBh 6 a c r n d nm lv))):=by rw [hU] at t0 ⊢;exact t0
 obtain ⟨x,hx⟩:∃ x,stE ps os a c r n=x:=⟨_,rfl⟩
 obtain ⟨q1,q2⟩:=lk.st gd ps a c r n
 obtain ⟨os1,ho1⟩:∃ os1,stL ps os a c r n=os1:=⟨_,rfl⟩
 obtain ⟨es1,he1⟩:∃ es1,dstL ps es a c r n=es1:=⟨_,rfl⟩
 rw [ho1,he1] at q2
 have gd1:Gd os1:=by rw [← ho1];exact gd.st ps a c r n
 have esz:∀ e∈es,e.nm.size≤maxLen:=fun e he=>by
  obtain ⟨k,hk⟩:=List.mem_iff_getElem?.1 he
  have:=lk.get? k
  rw [hk] at this
  cases ho:os[k]? with
  | none=>rw [ho] at this;cases this
  | some z =>
    rw [ho] at this
    simp [Dv.q,poQ,Ob.p] at this
    rw [this.2.1];exact (gd z (List.mem_of_getElem? ho)).2
 have HA:Hid (∀ w,Tk X hb b rb xb (fun j=>j=v.heap.size) U os es w→Calls Tryz.prog 46 #[.pointer (some ⟨hb,0,none⟩),.int .i64 a,.int .i64 c,.agg #[.bool r,.int .i64 n]] w fun e w'=>e=.returned (.int .i64 x)∧∃ os',os'=os1∧Tk X hb b rb xb (fun j=>j=v.heap.size) U os' es w'):=fun w t=>t.A (fun S ov hp hK=>by
  rw [← hx,← ho1]
  obtain ⟨ew,er,eb⟩:=E.kp w t.kx
  exact (set_c hp ew E.hT.wi (fun o ho=>(gd o ho).2) a c n r).mono fun e w' ⟨z1,z2⟩=>⟨z1,_,z2,rfl⟩)
 have HB:Hid (∀ w,Tk X hb b rb xb (fun j=>j=v.heap.size) U os1 es w→Calls Tryz.prog 47 #[.pointer (some ⟨rb,0,none⟩),.int .i64 a,.int .i64 c,.agg #[.bool r,.int .i64 n]] w fun e w'=>e=.returned (.int .i64 x)∧∃ es',es'=es1∧Tk X hb b rb xb (fun j=>j=v.heap.size) U os1 es' w'):=fun w t=>t.B (fun S tv ev hr lo=>by
  rw [← hx,← he1,← q1]
  obtain ⟨ew,er,eb⟩:=E.kp w t.kx
  exact (set_d hr er E.hT E.hJ esz a c n r).mono fun e w' ⟨z1,z2⟩=>⟨z1,_,z2,rfl⟩)
 have HPR:Hid (∀ w,Tk X hb b rb xb (fun j=>j=v.heap.size) U os1 es1 w→Pr X hb b rb xb w):=fun w t=>t.pr q2 gd1
 unfold oBh at T0 hob
 clear hx ho1 he1 q1 q2 gd1 esz h t0 lk gd hU E
 go_enter Tryz.func8,Tryz.ntmps8
 go_upto_region 27 with fail
 go_region_held3 (fun w'=>w'.cell? ⟨v.heap.size,1,none⟩=some (.int .i64 a)∧w'.cell? ⟨v.heap.size,2,none⟩=some (.int .i64 c)∧w'.cell? ⟨v.heap.size,3,none⟩=some (.bool r)∧w'.cell? ⟨v.heap.size,4,none⟩=some (.int .i64 n)) (go_keep) (first
  | (go_at_call 47;refine (HB.out _ T1.out).mono ?_;rintro e w3 ⟨rfl,es3,rfl,t2⟩;have T2:Hid (Tk X hb b rb xb (fun j=>j=v.heap.size) U os2 es3 w3):=t2;obtain ⟨y0,y1,y2,y3,y4,y5,y6,y7,yL⟩:=r8h ((t2.at rfl).trans hob);clear t2)
  | (go_at_call 46;refine (HA.out _ (Tk.bel T0.out (Below.refl _ _).drew)).mono ?_;rintro e w2 ⟨rfl,os2,rfl,t1⟩;have T1:Hid (Tk X hb b rb xb (fun j=>j=v.heap.size) U os2 es w2):=t1;obtain ⟨y0,y1,y2,y3,y4,y5,y6,y7,yL⟩:=r8h ((t1.at rfl).trans hob);clear t1))
 all_goals go_wp2
 all_goals
  go_ret
  exact ⟨Zb (by simp),HPR.out _ T2.out⟩
theorem ag_ask {W X v:World} {hb b rb xb:Nat} {ps:List Plc} {cs:List Cls} (_E:Env W X hb b xb ps cs) (h:Pr X hb b rb xb v) (a c:Int) (r:Bool) (n d:Int) (nm:ByteArray) (lv:Value):Calls Tryz.prog 8 #[.agg #[.int .i64 4,.int .i64 a,.int .i64 c,.bool r,.int .i64 n,.int .i64 d,.string nm,lv],.pointer (some ⟨hb,0,none⟩),.pointer (some ⟨rb,0,none⟩)] v fun e w'=>e=.returned (.bool true)∧Pr X hb b rb xb w':=by
 obtain ⟨os,es,t0,lk,gd⟩:=h.box (oBh 4 a c r n d nm lv)
 obtain ⟨U,hU⟩:∃ U,v.alloc (oBh 4 a c r n d nm lv)=U:=⟨_,rfl⟩
 have HU:Hid (v.alloc (oBh 4 a c r n d nm lv)=U):=hU
 have hob:U.heap[v.heap.size]?=some (oBh 4 a c r n d nm lv):=by rw [← hU];exact Zg _ _
 have T0:Hid (Tk X hb b rb xb (fun j=>j=v.heap.size) U os es (v.alloc (oBh 4 a c r n d nm lv))):=by rw [hU] at t0 ⊢;exact t0
 obtain ⟨q1,q2⟩:=lk.typ a
 obtain ⟨q3,q4⟩:=lk.lng a
 have q5:=lk.len
 have q6:=lk.wd
 obtain ⟨pd,pn,hty⟩:∃ pd pn,tyHo (obI os a)=.agg #[.int .i64 pd,.string pn]:=by cases obI os a <;> exact ⟨_,_,rfl⟩
 obtain ⟨x,hx⟩:∃ x,obF os a=x:=⟨_,rfl⟩
 obtain ⟨y,hy⟩:∃ y,arF os a=y:=⟨_,rfl⟩
 obtain ⟨m,hm⟩:∃ m:Int,(lnO (arO os a):Int)=m:=⟨_,rfl⟩
 obtain ⟨L,hL⟩:∃ L,os.length=L:=⟨_,rfl⟩
 obtain ⟨wd,hwd⟩:∃ wd,wdL os=wd:=⟨_,rfl⟩
 obtain ⟨S,S',bo,hS⟩:=T0.out
 obtain ⟨ov,ha⟩:=bo.a
 obtain ⟨tv,ev,hr⟩:=bo.r
 obtain ⟨av,ac,hav⟩:=ownv hr.tw
 have hcell:=hr.cells.2.1
 have hrl:=hr.cells.2.2.2.2
 rw [hav,q5,hL] at hcell
 have BE:v.alloc (oBh 4 a c r n d nm lv)=U:=hU
 rw [BE] at ha hr hcell hrl
 have HT1:Hid (∀ w,Bw U w→Calls Tryz.prog 39 #[.pointer (some ⟨hb,0,none⟩),.int .i64 a] w fun e w'=>e=.returned (.tuple #[.agg #[.int .i64 pd,.string pn],.int .i64 x])∧Bw w w'):=fun w hl=>by rw [← hty,← hx];exact typeOf_c (ha.below hl) a
 have HT2:Hid (∀ w,Bw U w→Calls Tryz.prog 40 #[.pointer (some ⟨rb,0,none⟩),.int .i64 a] w fun e w'=>e=.returned (.tuple #[.agg #[.int .i64 pd,.string pn],.int .i64 x])∧Bw w w'):=fun w hl=>by rw [← hty,← hx,← q1,← q2];exact typ_d (hr.below hl) a
 have HL1:Hid (∀ w,Bw U w→Calls Tryz.prog 41 #[.pointer (some ⟨hb,0,none⟩),.int .i64 a] w fun e w'=>e=.returned (.tuple #[.int .i64 m,.int .i64 y])∧Bw w w'):=fun w hl=>by rw [← hm,← hy];exact length_c (ha.below hl) a
 have HL2:Hid (∀ w,Bw U w→Calls Tryz.prog 9 #[.pointer (some ⟨rb,0,none⟩),.int .i64 a] w fun e w'=>e=.returned (.tuple #[.int .i64 m,.int .i64 y])∧Bw w w'):=fun w hl=>by rw [← hm,← hy,← q3,← q4];exact Zke (hr.below hl) a
 have HN:Hid (∀ w,Bw U w→Calls Tryz.prog 30 #[.pointer (some ⟨hb,0,none⟩)] w fun e w'=>e=.returned (.int .i64 (L:Int))∧w'=w):=fun w hl=>by rw [← hL];exact hlen_c (ha.below hl)
 have HW1:Hid (∀ w,Bw U w→Calls Tryz.prog 31 #[.pointer (some ⟨hb,0,none⟩)] w fun e w'=>e=.returned (.int .i64 (wd:Int))∧w'=w):=fun w hl=>by rw [← hwd];exact hwds_c (ha.below hl)
 have HW2:Hid (∀ w,Bw U w→Calls Tryz.prog 43 #[.pointer (some ⟨rb,0,none⟩)] w fun e w'=>e=.returned (.int .i64 (wd:Int))∧w'=w):=fun w hl=>by rw [← hwd,← q6];exact Zaz (hr.below hl)
 have HPR:Hid (∀ w,Bw U w→Pr X hb b rb xb w):=fun w hl=>by
  have t1:=T0.out
  rw [BE] at t1
  exact (t1.bel hl).pr lk gd
 have HOB:Hid (∀ w,Bw U w→w.heap[v.heap.size]?=some (oBh 4 a c r n d nm lv)):=fun w hl=>(hl.block v.heap.size (Array.getElem?_eq_some_iff.1 hob).1).trans hob
 have HC:Hid (∀ w,Bw U w→w.cell? ⟨rb,1,none⟩=some (.slice av L ac)):=fun w hl=>(hl.cell (p:=⟨rb,1,none⟩) hrl).trans hcell
 unfold oBh at hob HOB hU HU
 clear hx hy hm hL hwd hty q1 q2 q3 q4 q5 q6 h t0 T0 lk gd BE bo hS ha hr hcell hrl hav hU
 go_enter Tryz.func8,Tryz.ntmps8
 go_upto_region 21 with (first
  | (go_at_call 9;refine (HL2.out _ B3.out).mono ?_;rintro e w4 ⟨rfl,hB⟩;have B4:Hid (Bw U w4):=Za B3.out hB;obtain ⟨zC,zc0,zc1,zcf,zcL,zcN⟩:=k2c (n:=w1.heap.size) hB (by first|omega|(simp;try omega)) (zB.out);clear zB z0 z1 zf zL zN;have zB:Hid _:=zC.out;clear zC;have z0:=zc0;have z1:=zc1;have zf:=zcf;have zL:=zcL;have zN:=zcN;clear zc0 zc1 zcf zcL zcN;  obtain ⟨xC,xc0,xc1,xcf,xcL,xcN⟩:=k2c (n:=w2.heap.size) hB (by first|omega|(simp;try omega)) (xB.out);clear xB x0 x1 xf xL xN;have xB:Hid _:=xC.out;clear xC;have x0:=xc0;have x1:=xc1;have xf:=xcf;have xL:=xcL;have xN:=xcN;clear xc0 xc1 xcf xcL xcN;  clear hB)
  | (go_at_call 41;refine (HL1.out _ (B2.out.alloc B2.out.size _)).mono ?_;rintro e w3 ⟨rfl,hB⟩;have B3:Hid (Bw U w3):=Za (B2.out.alloc B2.out.size _) hB;obtain ⟨y0,y1,y2,y3,y4,y5,y6,y7,yL⟩:=r8h (HOB.out _ B3.out);obtain ⟨xB,x0,x1,xf,xL,xN⟩:=k2c (n:=w2.heap.size) hB (by simp) (Zg _ _);obtain ⟨zC,zc0,zc1,zcf,zcL,zcN⟩:=k2c (n:=w1.heap.size) hB (by first|omega|(simp;try omega)) (hkA zB.out);clear zB z0 z1 zf zL zN;have zB:Hid _:=zC.out;clear zC;have z0:=zc0;have z1:=zc1;have zf:=zcf;have zL:=zcL;have zN:=zcN;clear zc0 zc1 zcf zcL zcN;  clear hB)
  | (go_at_call 40;refine (HT2.out _ (B1.out.alloc B1.out.size _)).mono ?_;rintro e w2 ⟨rfl,hB⟩;have B2:Hid (Bw U w2):=Za (B1.out.alloc B1.out.size _) hB;obtain ⟨y0,y1,y2,y3,y4,y5,y6,y7,yL⟩:=r8h (HOB.out _ B2.out);have yN:¬ v.heap.size=w2.heap.size:=Nat.ne_of_lt yL;obtain ⟨zB,z0,z1,zf,zL,zN⟩:=k2c (n:=w1.heap.size) hB (by simp) (Zg _ _);clear hB)
  | (go_at_call 39;rw [HU.out];refine (HT1.out _ (Below.refl _ _)).mono ?_;rintro e w1 ⟨rfl,hB⟩;have B1:Hid (Bw U w1):=hB;obtain ⟨y0,y1,y2,y3,y4,y5,y6,y7,yL⟩:=r8h (HOB.out _ B1.out);have yN:¬ v.heap.size=w1.heap.size:=Nat.ne_of_lt yL;clear hB))
 obtain ⟨σ,V,hne,V1,V2⟩:=class_of' (fun w'=>Bw w4 w') ⟨_,Below.refl _ _⟩
 have BV:Hid (∀ q,Bw U (V q)):=fun q=>Za B4.out (V1.out q)
 have e0:=fun q=>((V1.out q).cell (p:=⟨w1.heap.size,0,none⟩) zL).trans z0
 have e1:=fun q=>((V1.out q).cell (p:=⟨w1.heap.size,1,none⟩) zL).trans z1
 have e2:=fun q=>((V1.out q).cell (p:=⟨w2.heap.size,0,none⟩) xL).trans x0
 have e3:=fun q=>((V1.out q).cell (p:=⟨w2.heap.size,1,none⟩) xL).trans x1
 have e4:=fun q=>HC.out _ (BV.out q)
 have VS:Hid (∀ q,Calls Tryz.prog 42 #[.agg #[.int .i64 pd,.string pn],.agg #[.int .i64 pd,.string pn]] (V q) fun e w''=>e=.returned (.bool true)∧∃ q',w''=V q'):=fun q=>(Zh2 pd pd pn pn (V q)).mono fun e w'' zz=>⟨by rw [zz.1];simp,V2.out _ ((V1.out q).trans (zz.2.mono (V1.out q).size))⟩
 have VN:Hid (∀ q,Calls Tryz.prog 30 #[.pointer (some ⟨hb,0,none⟩)] (V q) fun e w''=>e=.returned (.int .i64 (L:Int))∧∃ q',w''=V q'):=fun q=>(HN.out _ (BV.out q)).mono fun e w'' zz=>⟨zz.1,q,zz.2⟩
 have VA:Hid (∀ q,Calls Tryz.prog 31 #[.pointer (some ⟨hb,0,none⟩)] (V q) fun e w''=>e=.returned (.int .i64 (wd:Int))∧∃ q',w''=V q'):=fun q=>(HW1.out _ (BV.out q)).mono fun e w'' zz=>⟨zz.1,q,zz.2⟩
 have VB:Hid (∀ q,Calls Tryz.prog 43 #[.pointer (some ⟨rb,0,none⟩)] (V q) fun e w''=>e=.returned (.int .i64 (wd:Int))∧∃ q',w''=V q'):=fun q=>(HW2.out _ (BV.out q)).mono fun e w'' zz=>⟨zz.1,q,zz.2⟩
 refine Zc (C:=fun w'=>∃ q,w'=V q) (by kernel_rfl) (by kernel_rfl) (V2.out _ (Below.refl _ _).drew) ?_
 repeat (go_big_quiet_step (first|(go_at_call 42;exact VS.out _)|(go_at_call 30;exact VN.out _)|(go_at_call 31;exact VA.out _)|(go_at_call 43;exact VB.out _)))
 refine wpQuiet_nil ?_
 intro w9 hw9
 obtain ⟨s9,rfl⟩:=hw9
 go_wp2
 go_ret
 exact ⟨Zb (by simp),HPR.out _ (BV.out s9)⟩
theorem wld_wj (l:List Cls) (hl:∀ c∈l,ClsW c):WI (wld l)∧WJ (wld l):=Zcm (P:=fun ps=>WI ps∧WJ ps) ⟨wi3,wj3⟩ (fun _ c h hc=>⟨h.1.define c hc,WJ.define h.1 h.2 c hc⟩) l hl
end Go.Proofs.YtlnojhhddinjkaaGreat
