import Derived.Test.YtlnojhhddinjkaaGreatRfE
set_option maxHeartbeats 4000000
set_option maxRecDepth 100000
namespace Go.Proofs.YtlnojhhddinjkaaGreat
open Go.RowKit Go.Maps
def insD (op n:Int):Ins:=⟨op,n,⟨#[]⟩,false,⟨#[]⟩,⟨#[]⟩,⟨#[]⟩⟩
def objC:Cls:=⟨tObj,⟨#[]⟩,[],33,0,[⟨⟨#[60,105,110,105,116,62]⟩,⟨#[40,41,86]⟩,1,1,0,[insD 38 0]⟩,⟨⟨#[105,100]⟩,⟨#[40,41,73]⟩,1,1,1,[insD 1 7,insD 36 0]⟩,⟨⟨#[107,105,110]⟩,⟨#[40,41,76,79,98,106,101,99,116,59]⟩,4,1,1,[insD 4 0,insD 37 0]⟩]⟩
def cloC:Cls:=⟨tClo,tObj,[],1537,0,[]⟩
def serC:Cls:=⟨tSer,tObj,[],1537,0,[]⟩
def C3:List Cls:=[objC,cloC,serC]
theorem C3_hc:C3.map hcOf=P3.map Plc.c:=rfl
theorem Zca (w:World) (m:Nat) (hm:w.heap.size=m) (base e size n:Nat) (cs:Array Value) (hb:base≤m) (hn:n≤maxLen) (hl:cs.size=n * size):(w.alloc (.cells cs e)).ownsRow base e size (.slice (some ⟨m,0,none⟩) n n) n cs.toList:=by
 subst hm
 exact World.ownsRow_lit w cs n hb hn (by simpa using hl)
def nw1 (W:World):World:=W.alloc (.cells (Yu [insD 38 0]).toArray 76)
def nw2 (W:World):World:=(nw1 W).alloc (.cells (Yu [insD 1 7,insD 36 0]).toArray 76)
def nw3 (W:World):World:=(nw2 W).alloc (.cells (Yu [insD 4 0,insD 37 0]).toArray 76)
def nqm (k:Nat):List (HM×Value):=[(hmOf ⟨⟨#[60,105,110,105,116,62]⟩,⟨#[40,41,86]⟩,1,1,0,[insD 38 0]⟩,.slice (some ⟨k,0,none⟩) 1 1),(hmOf ⟨⟨#[105,100]⟩,⟨#[40,41,73]⟩,1,1,1,[insD 1 7,insD 36 0]⟩,.slice (some ⟨k+1,0,none⟩) 2 2),(hmOf ⟨⟨#[107,105,110]⟩,⟨#[40,41,76,79,98,106,101,99,116,59]⟩,4,1,1,[insD 4 0,insD 37 0]⟩,.slice (some ⟨k+1+1,0,none⟩) 2 2)]
def nw4 (W:World):World:=(nw3 W).alloc (.cells (Zv (nqm W.heap.size)).toArray 68)
def nrs (k:Nat):List CR:=[⟨objC,.slice none 0 0,.slice (some ⟨k+1+1+1,0,none⟩) 3 3⟩,⟨cloC,.slice none 0 0,.slice none 0 0⟩,⟨serC,.slice none 0 0,.slice none 0 0⟩]
def nw5 (W:World):World:=(nw4 W).alloc (.cells (crC ⟨objC,.slice none 0 0,.slice (some ⟨W.heap.size+1+1+1,0,none⟩) 3 3⟩).toArray 55)
def nw6 (W:World):World:=(nw5 W).alloc (.cells (Zae (nrs W.heap.size)).toArray 55)
def nw7 (W:World):World:=(nw6 W).alloc (.cells #[.slice (some ⟨W.heap.size+1+1+1+1+1,0,none⟩) 3 3] 114)
theorem Zg4 (W:World):(nw1 W).heap.size=W.heap.size+1∧(nw2 W).heap.size=W.heap.size+1+1∧(nw3 W).heap.size=W.heap.size+1+1+1∧(nw4 W).heap.size=W.heap.size+1+1+1+1∧(nw5 W).heap.size=W.heap.size+1+1+1+1+1∧(nw6 W).heap.size=W.heap.size+1+1+1+1+1+1:=by
 simp [nw1,nw2,nw3,nw4,nw5,nw6]
theorem Za8 (w:World) (N e s:Nat):w.ownsRow N e s (.slice none 0 0) 0 []:=World.ownsRow_nil _ _ _ _
theorem rNew_rw (W:World):RW (nw7 W) W.heap.size (W.heap.size+1+1+1+1+1+1) (.slice (some ⟨W.heap.size+1+1+1+1+1,0,none⟩) 3 3) (nrs W.heap.size):=by
 obtain ⟨s1,s2,s3,s4,s5,s6⟩:=Zg4 W
 have hM:∀ n,n≤3→n≤maxLen:=fun n hn=>by unfold maxLen;omega
 have i1:(nw1 W).ownsRow W.heap.size 76 7 (.slice (some ⟨W.heap.size,0,none⟩) 1 1) 1 (Yu [insD 38 0]):=Zca W _ rfl _ _ _ _ _ (Nat.le_refl _) (hM _ (by omega)) rfl
 have i2:(nw2 W).ownsRow W.heap.size 76 7 (.slice (some ⟨W.heap.size+1,0,none⟩) 2 2) 2 (Yu [insD 1 7,insD 36 0]):=Zca (nw1 W) _ s1 _ _ _ _ _ (by omega) (hM _ (by omega)) rfl
 have i3:(nw3 W).ownsRow W.heap.size 76 7 (.slice (some ⟨W.heap.size+1+1,0,none⟩) 2 2) 2 (Yu [insD 4 0,insD 37 0]):=Zca (nw2 W) _ s2 _ _ _ _ _ (by omega) (hM _ (by omega)) rfl
 have i4:(nw4 W).ownsRow W.heap.size 68 6 (.slice (some ⟨W.heap.size+1+1+1,0,none⟩) 3 3) 3 (Zv (nqm W.heap.size)):=Zca (nw3 W) _ s3 _ _ _ _ _ (by omega) (hM _ (by omega)) rfl
 have i6:(nw6 W).ownsRow W.heap.size 55 6 (.slice (some ⟨W.heap.size+1+1+1+1+1,0,none⟩) 3 3) 3 (Zae (nrs W.heap.size)):=Zca (nw5 W) _ s5 _ _ _ _ _ (by omega) (hM _ (by omega)) rfl
 refine ⟨?_,i6.alloc _,?_,by omega⟩
 ·have:=Zg (nw6 W) (.cells #[.slice (some ⟨W.heap.size+1+1+1+1+1,0,none⟩) 3 3] 114)
  rw [s6] at this
  exact this
 ·intro r hr
  simp only [nrs,List.mem_cons,List.not_mem_nil,or_false] at hr
  rcases hr with rfl|rfl|rfl
  ·refine ⟨nqm W.heap.size,rfl,Za8 _ _ _ _,((i4.alloc _).alloc _).alloc _,?_⟩
   intro p hp
   simp only [nqm,List.mem_cons,List.not_mem_nil,or_false] at hp
   rcases hp with rfl|rfl|rfl
   ·exact (((((i1.alloc _).alloc _).alloc _).alloc _).alloc _).alloc _
   ·exact ((((i2.alloc _).alloc _).alloc _).alloc _).alloc _
   ·exact (((i3.alloc _).alloc _).alloc _).alloc _
  ·exact ⟨[],rfl,Za8 _ _ _ _,Za8 _ _ _ _,fun p hp=>by simp at hp⟩
  ·exact ⟨[],rfl,Za8 _ _ _ _,Za8 _ _ _ _,fun p hp=>by simp at hp⟩
theorem Zh7 (W:World):Bw W (nw7 W):=by
 obtain ⟨s1,s2,s3,s4,s5,s6⟩:=Zg4 W
 exact (((((((Below.refl _ W).alloc (Nat.le_refl _) _).alloc (w:=nw1 W) (by omega) _).alloc (w:=nw2 W) (by omega) _).alloc (w:=nw3 W) (by omega) _).alloc (w:=nw4 W) (by omega) _).alloc (w:=nw5 W) (by omega) _).alloc (w:=nw6 W) (by omega) _
theorem rNew_c (W:World):Calls Tryz.prog 12 #[] W fun e w'=>∃ b v rs,e=.returned (.pointer (some ⟨b,0,none⟩))∧RW w' W.heap.size b v rs∧rs.map CR.c=C3∧Bw W w':=by
 go_enter Tryz.func12,Tryz.ntmps12
 go_wp2
 exact bodyPost_ret (v:=.pointer (some ⟨W.heap.size+1+1+1+1+1+1,0,none⟩)) (by simp [results,Tryz.results12,go_sem]) rfl ⟨_,_,_,rfl,rNew_rw W,rfl,Zh7 W⟩
def NmW (ps:List Plc):Prop:=∀ k q,ps[k]?=some q→Zn ps (Q9 q)=some k∧Zj (Q9 q)=true
theorem cls_name {c:Cls} (h:clsB c=true):Zj c.nm.data.toList=true:=by
 unfold clsB at h
 simp only [Bool.and_eq_true] at h
 exact h.1.1.1.1.1.1.1.1.1
theorem nmW (l:List Cls) (hl:∀ c∈l,ClsW c):NmW (wld l):=by
 refine Zcm (P:=NmW) (fun k q hk=>?_) (fun ps c h hc=>?_) l hl
 ·match k,hk with
  | 0,hk=>simp [P3] at hk;subst hk;exact ⟨by decide,by decide⟩
  | 1,hk=>simp [P3] at hk;subst hk;exact ⟨by decide,by decide⟩
  | 2,hk=>simp [P3] at hk;subst hk;exact ⟨by decide,by decide⟩
  | (k+3),hk=>simp [P3] at hk
 ·cases hd:defN ps c with
  | error e=>exact h
  | ok p =>
    obtain ⟨h1,_,hn,s,l,_,_,rfl⟩:=Zfc hd
    intro k q hk
    have hk2:(ps++[(⟨hcOf c,s,Z4 (ps.map Plc.cl) s l⟩:Plc)])[k]?=some q:=hk
    show Zn (ps++[_]) (Q9 q)=some k∧_
    by_cases hlt:k<ps.length
    ·rw [List.getElem?_append_left hlt] at hk2
     obtain ⟨h2,h3⟩:=h k q hk2
     exact ⟨Qb h2 hn,h3⟩
    ·rw [List.getElem?_append_right (by omega)] at hk2
     have he:k - ps.length=0:=by
      have:=(List.getElem?_eq_some_iff.1 hk2).1
      simp at this;omega
     rw [he] at hk2
     simp at hk2
     subst hk2
     refine ⟨?_,cls_name h1⟩
     rw [Zn,Zac,if_pos rfl]
     congr 1;omega
def Twin (cs:List Cls) (ps:List Plc):Prop:=cs.map hcOf=ps.map Plc.c
theorem Twin.len {cs:List Cls} {ps:List Plc} (h:Twin cs ps):cs.length=ps.length:=by
 have:=congrArg List.length h
 simpa using this
theorem Twin.at {cs:List Cls} {ps:List Plc} (h:Twin cs ps) {k:Nat} {c:Cls} (hk:cs[k]?=some c):∃ q,ps[k]?=some q∧q.c=hcOf c:=by
 have e:(ps.map Plc.c)[k]?=some (hcOf c):=by rw [← h,List.getElem?_map,hk];rfl
 rw [List.getElem?_map] at e
 cases hq:ps[k]? with
 | none=>rw [hq] at e;cases e
 | some q=>rw [hq] at e;exact ⟨q,rfl,Option.some.inj e⟩
theorem Twin.at' {cs:List Cls} {ps:List Plc} (h:Twin cs ps) {k:Nat} {q:Plc} (hk:ps[k]?=some q):∃ c,cs[k]?=some c∧q.c=hcOf c:=by
 have e:(cs.map hcOf)[k]?=some q.c:=by rw [h,List.getElem?_map,hk];rfl
 rw [List.getElem?_map] at e
 cases hq:cs[k]? with
 | none=>rw [hq] at e;cases e
 | some c=>rw [hq] at e;exact ⟨c,rfl,(Option.some.inj e).symm⟩
theorem Twin.clsI {cs:List Cls} {ps:List Plc} (h:Twin cs ps) (i:Int):(clsI cs i=none∧plcI ps i=none)∨∃ (k:Nat) (c:Cls) (q:Plc),i=(k:Int)∧cs[k]?=some c∧ps[k]?=some q∧q.c=hcOf c∧clsI cs i=some c∧plcI ps i=some q:=by
 rcases Qq cs i with ⟨h1,h2⟩|⟨k,c,rfl,h2,h1⟩
 ·rcases Yg ps i with ⟨h3,_⟩|⟨j,q,rfl,h4,_⟩
  ·exact .inl ⟨h1,h3⟩
  ·have:=(List.getElem?_eq_some_iff.1 h4).1
   exact absurd ⟨Int.natCast_nonneg j,by rw [h.len];omega⟩ h2
 ·obtain ⟨q,h3,h4⟩:=h.at h2
  exact .inr ⟨k,c,q,rfl,h2,h3,h4,h1,by rw [Qk];exact h3⟩
theorem Zei (key:List UInt8):∀ (cs:List Cls) (k j:Nat),nmdI key cs k=((k+j:Nat):Int)→∃ c,cs[j]?=some c∧c.nm.toList=key
 | [],_,_,h=>by rw [nmdI] at h;omega
 | c::r,k,j,h=>by
   rw [nmdI] at h
   cases e:c.nm.toList == key with
   | true =>
     rw [e,if_pos rfl] at h
     obtain rfl:j=0:=by omega
     exact ⟨c,rfl,beq_iff_eq.1 e⟩
   | false =>
     rw [e,if_neg (by simp)] at h
     cases j with
     | zero =>
       exfalso
       rcases Qm key r (k+1) with h1|⟨i,h1,_⟩
       ·rw [h1] at h;omega
       ·rw [h1] at h;omega
     | succ j =>
       obtain ⟨d,h1,h2⟩:=Zei key r (k+1) j (by rw [h];congr 1;omega)
       exact ⟨d,by rw [List.getElem?_cons_succ];exact h1,h2⟩
theorem Zj7 (key:List UInt8):∀ (cs:List Cls) (k:Nat),nmdI key cs k=-1→∀ c∈cs,¬ c.nm.toList=key
 | [],_,_,_,hc=>by simp at hc
 | c::r,k,h,d,hd=>by
   rw [nmdI] at h
   cases e:c.nm.toList == key with
   | true=>rw [e,if_pos rfl] at h;omega
   | false =>
     rw [e,if_neg (by simp)] at h
     rcases List.mem_cons.1 hd with rfl|hd
     ·exact fun e2=>by rw [e2] at e;simp at e
     ·exact Zj7 key r (k+1) h d hd
def lkI:Option Nat→Int
 | some j=>(j:Int)
 | none=>-1
theorem Xn {cs:List Cls} {ps:List Plc} (h:Twin cs ps) (hn:NmW ps) (key:List UInt8):nmdI key cs 0=lkI (Zn ps key):=by
 rcases Qm key cs 0 with e|⟨j,e,hj⟩
 ·rw [e]
  cases hl:Zn ps key with
  | none=>rfl
  | some j =>
    exfalso
    obtain ⟨q,h1,h2⟩:=Z9 hl
    obtain ⟨c,h3,h4⟩:=h.at' h1
    refine Zj7 key cs 0 e c (List.mem_of_getElem? h3) ?_
    rw [Lib.toList_data,← h2,Q9,h4];rfl
 ·obtain ⟨c,h1,h2⟩:=Zei key cs 0 j e
  obtain ⟨q,h3,h4⟩:=h.at h1
  have h5:Q9 q=key:=by rw [Q9,h4,← h2,Lib.toList_data];rfl
  have h6:=(hn j q h3).1
  rw [h5] at h6
  rw [e,h6,Nat.zero_add];rfl
def errN {α:Type}:Except Int α→Int
 | .ok _=>0
 | .error e=>e
theorem Zgo (c p:Cls) (q:Plc) (hq:q.c=hcOf p):togB c p=X3 q.c c.nm c.ld:=by
 have e1:(hcOf p).ld=p.ld:=rfl
 have e2:(hcOf p).nm=p.nm:=rfl
 rw [togB,X3,hq,e1,e2,Bool.eq_iff_iff]
 simp only [Bool.and_eq_true,beq_iff_eq]
 exact ⟨fun ⟨a,b⟩=>⟨a.symm,b.symm⟩,fun ⟨a,b⟩=>⟨a.symm,b.symm⟩⟩
theorem rif_eq {cs:List Cls} {ps:List Plc} (h:Twin cs ps) (hn:NmW ps) (c:Cls):∀ (l:List (List UInt8)) (acc:List Nat),rifN cs c l=errN (ifsN ps c.nm c.ld acc l)
 | [],_=>rfl
 | p::r,acc=>by
   have e0:(ByteArray.mk p.toArray).toList=p:=by rw [Lib.toList_data]
   rw [rifN,ifsN,e0,Xn h hn]
   cases hl:Zn ps p with
   | none =>
     have e1:Zu ps c.nm c.ld fitI p=.error 20:=by rw [Zu,hl]
     rw [e1,lkI,if_pos (by decide)];rfl
   | some k =>
     obtain ⟨q,h1,_⟩:=Z9 hl
     obtain ⟨d,h2,h3⟩:=h.at' h1
     have e1:Zu ps c.nm c.ld fitI p=if fitI k q then (if pubB q.c.fl||X3 q.c c.nm c.ld then .ok k else .error 22) else .error 23:=by
      rw [Zu,hl];simp only [h1]
     have e2:ifcC cs (lkI (some k))=fitI k q:=by rw [lkI,ifcC,Yj,h2,fitI,h3];rfl
     have e3:ropI cs c (lkI (some k))=(pubB q.c.fl||X3 q.c c.nm c.ld):=by rw [lkI,ropI,Yj,h2];simp only [Zgo c d q h3];rw [h3];rfl
     have e4:¬ lkI (some k)<0:=by rw [lkI];omega
     rw [if_neg e4,e2,e3,e1]
     cases fitI k q with
     | false=>rfl
     | true =>
       cases (pubB q.c.fl||X3 q.c c.nm c.ld) with
       | false=>rfl
       | true =>
         rw [if_pos rfl,if_pos rfl,if_pos rfl,if_pos rfl]
         exact rif_eq h hn c r (acc++[k])
theorem rdf_eq {cs:List Cls} {ps:List Plc} (h:Twin cs ps) (hn:NmW ps) (c:Cls):rdfN cs c=errN (defN ps c):=by
 rw [rdfN,defN,h.len]
 by_cases hB:clsB c=true
 ·rw [if_pos hB,if_pos hB]
  by_cases h3:300≤ps.length
  ·rw [if_pos h3,if_pos h3];rfl
  ·rw [if_neg h3,if_neg h3,Xn h hn,Lib.toList_data]
   cases hl:Zn ps c.nm.data.toList with
   | some j=>rw [if_pos (by rw [lkI];omega)];rfl
   | none =>
     rw [if_neg (by decide),Xn h hn,Lib.toList_data]
     cases hs:Zn ps c.su.data.toList with
     | none =>
       have e1:Zu ps c.nm c.ld (fitS c.fl) c.su.data.toList=.error 20:=by rw [Zu,hs]
       rw [e1,if_pos (by decide)];rfl
     | some k =>
       obtain ⟨q,h1,_⟩:=Z9 hs
       obtain ⟨d,h2,h3⟩:=h.at' h1
       have e1:Zu ps c.nm c.ld (fitS c.fl) c.su.data.toList=if fitS c.fl k q then (if pubB q.c.fl||X3 q.c c.nm c.ld then .ok k else .error 22) else .error 23:=by
        rw [Zu,hs];simp only [h1]
       have e2:(ifcC cs (lkI (some k))||(hasI c.fl 512&&!(lkI (some k) == 0)))=!fitS c.fl k q:=by
        have f1:ifcC cs (lkI (some k))=ifB q.c.fl:=by rw [lkI,ifcC,Yj,h2,h3];rfl
        have f2:hasI c.fl 512=ifB c.fl:=rfl
        have f3:(lkI (some k) == 0)=decide (k=0):=by rw [lkI,Bool.eq_iff_iff];simp
        rw [f1,f2,f3,fitS]
        cases ifB q.c.fl <;> cases ifB c.fl <;> cases decide (k=0) <;> rfl
       have e3:ropI cs c (lkI (some k))=(pubB q.c.fl||X3 q.c c.nm c.ld):=by rw [lkI,ropI,Yj,h2];simp only [Zgo c d q h3];rw [h3];rfl
       have e4:¬ lkI (some k)<0:=by rw [lkI];omega
       rw [if_neg e4,e2,e3,e1]
       cases fitS c.fl k q with
       | false=>rfl
       | true =>
         cases (pubB q.c.fl||X3 q.c c.nm c.ld) with
         | false=>rfl
         | true =>
           rw [if_neg (by decide),if_pos rfl,if_pos rfl,if_pos rfl,rif_eq h hn c c.ifs []]
           cases ifsN ps c.nm c.ld [] c.ifs <;> rfl
 ·rw [if_neg hB,if_neg hB];rfl
theorem def_err {ps:List Plc} {c:Cls} {x:Int} (h:defN ps c=.error x):¬ x=0:=by
 rw [defN] at h
 by_cases hB:clsB c=true
 ·rw [if_pos hB] at h
  by_cases h3:300≤ps.length
  ·rw [if_pos h3] at h;cases h;decide
  ·rw [if_neg h3] at h
   cases hl:Zn ps c.nm.data.toList with
   | some j=>rw [hl] at h;cases h;decide
   | none =>
     rw [hl] at h
     cases ha:Zu ps c.nm c.ld (fitS c.fl) c.su.data.toList with
     | error y=>rw [ha] at h;cases h;exact J2 ha
     | ok s =>
       rw [ha] at h
       cases hi:ifsN ps c.nm c.ld [] c.ifs with
       | error y=>rw [hi] at h;cases h;exact Zf9 _ _ hi
       | ok l=>rw [hi] at h;cases h
 ·rw [if_neg hB] at h;cases h;decide
theorem Twin.define {cs:List Cls} {ps:List Plc} (h:Twin cs ps) (hn:NmW ps) (c:Cls):Twin (rdfC cs c (rdfN cs c)) (dfP ps (defN ps c)):=by
 rw [rdf_eq h hn,rdfC]
 cases hd:defN ps c with
 | error x=>rw [errN,if_neg (def_err hd)];exact h
 | ok p =>
   obtain ⟨_,_,_,s,l,_,_,rfl⟩:=Zfc hd
   rw [errN,if_pos rfl,dfP,Twin,List.map_append,List.map_append,h];rfl
def wldC (l:List Cls):List Cls:=l.foldl (fun cs c=>rdfC cs c (rdfN cs c)) C3
theorem Zi5 (l:List Cls) (c:Cls):wldC (l++[c])=rdfC (wldC l) c (rdfN (wldC l) c):=by
 rw [wldC,List.foldl_append];rfl
theorem Zi6 {l:List Cls} {i:Nat} {c:Cls} (h:l[i]?=some c):wldC (l.take (i+1))=rdfC (wldC (l.take i)) c (rdfN (wldC (l.take i)) c):=by
 rw [List.take_add_one,h];exact Zi5 _ _
theorem Za0 (l:List Cls) (hl:∀ c∈l,ClsW c):∀ i,Twin (wldC (l.take i)) (wld (l.take i))
 | 0=>C3_hc
 | i+1=>by
   have ih:=Za0 l hl i
   have hn:NmW (wld (l.take i)):=nmW _ (fun c hc=>hl c (List.mem_of_mem_take hc))
   cases hc:l[i]? with
   | none =>
     have e1:l.take (i+1)=l.take i:=by
      have:=List.getElem?_eq_none_iff.1 hc
      rw [List.take_of_length_le (by omega),List.take_of_length_le this]
     rw [e1];exact ih
   | some c =>
     rw [Zi6 hc,wld_at hc]
     exact ih.define hn c
theorem twin_all (l:List Cls) (hl:∀ c∈l,ClsW c):Twin (wldC l) (wld l):=by
 have:=Za0 l hl l.length
 rwa [List.take_of_length_le (Nat.le_refl _)] at this
theorem Twin.sz {cs:List Cls} {ps:List Plc} (h:Twin cs ps) (hw:WI ps):∀ c∈cs,c.nm.size≤maxLen:=by
 intro c hc
 obtain ⟨k,hk⟩:=List.mem_iff_getElem?.1 hc
 obtain ⟨q,h1,h2⟩:=h.at hk
 have:=hw.nm q (List.mem_of_getElem? h1)
 rw [h2] at this
 exact this
theorem of_c (v:Value) (l:List Cls) (W:World) (h:J3 W v l):Calls Tryz.prog 7 #[v] W fun e w'=>(∃ b,e=.returned (.pointer (some ⟨b,0,none⟩))∧RAt b (wldC l) w')∧Bw W w':=by
 have hCW:=Zk0 h
 obtain ⟨ao,cap,rfl,h1,h2,h3⟩:=h
 unfold maxLen at h2
 obtain ⟨L,hL⟩:∃ L,l.length=L:=⟨_,rfl⟩
 have HL:Hid (l.length=L):=hL
 have HI:Hid _:=h3
 have HCW:Hid (∀ c∈l,ClsW c):=hCW
 rw [hL] at h1 ⊢
 clear hL h3 hCW
 have HN:Hid (∀ w:World,Calls Tryz.prog 12 #[] w fun e w'=>∃ b v rs,e=.returned (.pointer (some ⟨b,0,none⟩))∧RW w' w.heap.size b v rs∧rs.map CR.c=C3∧Bw w w'):=rNew_c
 go_enter Tryz.func7,Tryz.ntmps7
 go_wp2_with (first
  | (go_at_call 12;refine (HN.out _).mono ?_;rintro e w2 ⟨b,v2,rs2,rfl,hw,hc3,hb⟩;have H2:Hid (∃ v' rs',RW w2 W.heap.size b v' rs'∧rs'.map CR.c=wldC (l.take 0)):=⟨v2,rs2,hw,hc3⟩;have B2:Hid (Bw W w2):=hb;clear hb hw hc3 HN))
 go_loopw [4] (fun iv wr=>∃ (i:Nat),iv=.int .i64 i∧i≤L∧Hid (∃ v' rs',RW wr W.heap.size b v' rs'∧rs'.map CR.c=wldC (l.take i))∧Hid (Bw W wr)) (fun iv _=>L - (intOf iv).toNat)
 case atStart=>exact ⟨0,rfl,Nat.zero_le _,H2,B2⟩
 case round =>
  clear H2 B2
  obtain ⟨i,rfl,hi,hHW,hB⟩:=hrel
  by_cases hlt:i<L
  ·obtain ⟨c,hc⟩:∃ c,l[i]?=some c:=⟨_,List.getElem?_eq_getElem (by rw [HL.out];exact hlt)⟩
   obtain ⟨bk,o,rfl,hbk,hcl⟩:=HI.out (fun e=>by rw [e] at hc;simp at hc)
   obtain ⟨vi,vm,hcell,hin⟩:=hcl i c hc
   have bel:Bw W wr:=hB.out
   have p0:wr.cell? ⟨bk,o+i * 6,none⟩=some (.string c.nm):=(bel.cell (p:=⟨bk,o+i * 6,none⟩) hbk).trans (hcell 0 _ rfl)
   have p1:wr.cell? ⟨bk,o+i * 6+1,none⟩=some (.string c.su):=(bel.cell (p:=⟨bk,o+i * 6+1,none⟩) hbk).trans (hcell 1 _ rfl)
   have p2:wr.cell? ⟨bk,o+i * 6+2,none⟩=some vi:=(bel.cell (p:=⟨bk,o+i * 6+2,none⟩) hbk).trans (hcell 2 _ rfl)
   have p3:wr.cell? ⟨bk,o+i * 6+3,none⟩=some (.int .i64 c.fl):=(bel.cell (p:=⟨bk,o+i * 6+3,none⟩) hbk).trans (hcell 3 _ rfl)
   have p4:wr.cell? ⟨bk,o+i * 6+4,none⟩=some (.int .i64 c.ld):=(bel.cell (p:=⟨bk,o+i * 6+4,none⟩) hbk).trans (hcell 4 _ rfl)
   have p5:wr.cell? ⟨bk,o+i * 6+5,none⟩=some vm:=(bel.cell (p:=⟨bk,o+i * 6+5,none⟩) hbk).trans (hcell 5 _ rfl)
   have hTk:∀ c∈l.take i,ClsW c:=fun c hc=>HCW.out c (List.mem_of_mem_take hc)
   have hTw:Twin (wldC (l.take i)) (wld (l.take i)):=Za0 l HCW.out i
   have hWI:WI (wld (l.take i)):=Zi4 _ hTk
   have HD:Hid (Calls Tryz.prog 15 #[.pointer (some ⟨b,0,none⟩),.agg #[.string c.nm,.string c.su,vi,.int .i64 c.fl,.int .i64 c.ld,vm]] wr fun e w'=>(∃ u,e=.returned u)∧Hid (∃ v' rs',RW w' W.heap.size b v' rs'∧rs'.map CR.c=wldC (l.take (i+1)))∧Hid (Bw W w')):=by
    obtain ⟨v',rs',hw,hrs⟩:=hHW.out
    have hln:rs'.length≤300:=by
     have e1:rs'.length=(wldC (l.take i)).length:=by rw [← hrs,List.length_map]
     rw [e1,hTw.len];exact hWI.hi
    refine (Zft W.heap.size b v' rs' c vi vm wr hw hB.out.size (hin.keep bel) (fun q hq=>hTw.sz hWI q.c (by rw [← hrs];exact List.mem_map_of_mem hq)) hln).mono ?_
    rintro e w' ⟨rfl,⟨v2,rs2,hw2,hrs2⟩,hb',_⟩
    rw [hrs] at hrs2
    refine ⟨⟨_,rfl⟩,⟨v2,rs2,hw2,?_⟩,hB.out.trans hb'⟩
    rw [Zi6 hc];exact hrs2
   clear hcl hcell hin hc bel hWI hHW hB HI hTw hTk
   go_wp2_with (go_at_call 15;refine HD.out.mono ?_;rintro e w3 ⟨⟨u3,rfl⟩,hw3,hb3⟩;clear HD)
   go_roundw
   case rel=>exact ⟨i+1,by go_num,by omega,hw3,hb3⟩
   case measure=>simp [intOf];omega
  ·have e:i=L:=by omega
   subst e
   have HF:Hid (RAt b (wldC l) wr):=by
    obtain ⟨v',rs',hw,hrs⟩:=hHW.out
    rw [List.take_of_length_le (by rw [HL.out];exact Nat.le_refl _)] at hrs
    exact ⟨_,v',rs',hw,hrs⟩
   clear hHW HI
   go_wp2
   exact bodyPost_ret (results_tmp rfl _ _ _) rfl ⟨⟨_,rfl,HF.out⟩,hB.out⟩
def SpW (ps:List Plc):Prop:=∀ k q,0<k→ps[k]?=some q→Zn ps q.c.su.data.toList=some q.sp
theorem spW (l:List Cls) (hl:∀ c∈l,ClsW c):SpW (wld l):=by
 have key:WI (wld l)∧SpW (wld l):=by
  refine Zcm (P:=fun ps=>WI ps∧SpW ps) ⟨wi3,fun k q h0 hk=>?_⟩ (fun ps c h hc=>⟨h.1.define c hc,?_⟩) l hl
  ·match k,hk with
   | 1,hk=>simp [P3] at hk;subst hk;decide
   | 2,hk=>simp [P3] at hk;subst hk;decide
   | (k+3),hk=>simp [P3] at hk
  ·cases hd:defN ps c with
   | error e=>exact h.2
   | ok p =>
     obtain ⟨_,_,hn,s,l,hs,_,rfl⟩:=Zfc hd
     intro k q h0 hk
     have hk2:(ps++[(⟨hcOf c,s,Z4 (ps.map Plc.cl) s l⟩:Plc)])[k]?=some q:=hk
     show Zn (ps++[_]) q.c.su.data.toList=some q.sp
     by_cases hlt:k<ps.length
     ·rw [List.getElem?_append_left hlt] at hk2
      exact Qb (h.2 k q h0 hk2) hn
     ·rw [List.getElem?_append_right (by omega)] at hk2
      have he:k - ps.length=0:=by
       have:=(List.getElem?_eq_some_iff.1 hk2).1
       simp at this;omega
      rw [he] at hk2
      simp at hk2
      subst hk2
      refine Qb ?_ hn
      show Zn ps c.su.data.toList=some s
      rw [Zu] at hs
      cases hl2:Zn ps c.su.data.toList with
      | none=>rw [hl2] at hs;cases hs
      | some j =>
        rw [hl2] at hs
        simp only at hs
        cases hq:ps[j]? with
        | none=>rw [hq] at hs;cases hs
        | some q =>
          rw [hq] at hs
          simp only at hs
          split at hs
          ·split at hs
           ·cases hs;rfl
           ·cases hs
          ·cases hs
 exact key.2
theorem Zje (c a b:List Nat):Zi c (a++b)=Zi (Zi c a) b:=by
 induction a generalizing c with
 | nil=>rfl
 | cons x r ih=>rw [List.cons_append,Zi,Zi];exact ih _
theorem Zdx {c a:List Nat} (h:∀ x∈a,x∈c):Zi c a=c:=by
 induction a with
 | nil=>rfl
 | cons x r ih =>
   rw [Zi]
   have hx:c.contains x=true:=by simpa using h x (by simp)
   simp only [hx,if_true]
   exact ih (fun y hy=>h y (by simp [hy]))
theorem Q7 (l a b:List Nat):Zi l (Zi a b)=Zi (Zi l a) b:=by
 induction b generalizing a with
 | nil=>rfl
 | cons x r ih =>
   rw [Zi,Zi,ih]
   congr 1
   by_cases hx:a.contains x=true
   ·have h1:(Zi l a).contains x=true:=by
     have:x∈a:=by simpa using hx
     simpa using (Z8 l a x).2 (.inr this)
    simp only [hx,h1,if_true]
   ·simp only [hx,if_false,Bool.false_eq_true]
    rw [Zje,Zi,Zi]
theorem Zbe (cls:List (List Nat)) (l:List Nat):∀ (ks:List Nat) (a:List Nat),Zi l (ks.foldl (gathF cls) a)=ks.foldl (gathF cls) (Zi l a)
 | [],_=>rfl
 | k::r,a=>by
   rw [List.foldl_cons,List.foldl_cons,Zbe cls l r]
   congr 1
   rw [gathF,gathF,Q7,Q7]
structure TwW (cs:List Cls) (ps:List Plc):Prop where
 tw:Twin cs ps
 nm:NmW ps
 sp:SpW ps
 wi:WI ps
theorem twW (l:List Cls) (hl:∀ c∈l,ClsW c):TwW (wldC l) (wld l):=⟨twin_all l hl,nmW l hl,spW l hl,Zi4 l hl⟩
theorem TwW.super {cs:List Cls} {ps:List Plc} (h:TwW cs ps) {k:Nat} {c:Cls} (hk:cs[k]?=some c) (h0:0<k):nmdI c.su.toList cs 0=((spO (ps.map nd) k:Nat):Int):=by
 obtain ⟨q,hq,hc⟩:=h.tw.at hk
 rw [Xn h.tw h.nm,Lib.toList_data]
 have:=h.sp k q h0 hq
 rw [hc] at this
 have e:(hcOf c).su=c.su:=rfl
 rw [e] at this
 rw [this,lkI,spO,nd_at' hq];rfl
theorem Zib {b:Nat} {cs:List Cls} {ps:List Plc} {W:World} (h:RAt b cs W) (ht:TwW cs ps) (k:Nat) (hk:k<ps.length):Calls Tryz.prog 26 #[.pointer (some ⟨b,0,none⟩),.int .i64 (k:Int)] W fun e w'=>(∃ v,e=.returned (.tuple #[v,.int .i64 0])∧w'.ownsRow W.heap.size 3 1 v (chL (ps.map nd) k).length ((chL (ps.map nd) k).map numV))∧Bw W w':=by
 obtain ⟨i0,hi0,hz0,hz1,hz2⟩:=info_parts Tryz.hinfo3
 have hlen:=ht.tw.len
 have h3:=ht.wi.hi
 have HR:Hid (RAt b cs W):=h
 have HT:Hid (TwW cs ps):=ht
 obtain ⟨L,hL⟩:∃ L,cs.length=L:=⟨_,rfl⟩
 have HL:Hid (cs.length=L):=hL
 have HI:Hid (∀ w,Bw W w→Calls Tryz.prog 63 #[.pointer (some ⟨b,0,none⟩),.int .i64 (k:Int)] w fun e w'=>e=.returned (.bool true)∧w'=w):=fun w hb=>by
  have:=Zfr (h.below hb) (k:Int)
  rw [Yj,List.getElem?_eq_getElem (by omega)] at this
  exact this
 have HN:Hid (∀ w (c:Cls),Bw W w→Calls Tryz.prog 57 #[.pointer (some ⟨b,0,none⟩),.string c.su] w fun e w'=>e=.returned (.int .i64 (nmdI c.su.toList cs 0))∧w'=w):=fun w c hb=>Zat (h.below hb) c.su (by omega)
 have hkL:k<L:=by omega
 have hL3:L≤300:=by omega
 clear h ht hlen h3 hk hL
 go_enter Tryz.func26,Tryz.ntmps26
 go_wp2_with (go_at_call 63;refine (HI.out _ (Below.refl _ _)).mono ?_;rintro e w9 ⟨rfl,hw9⟩;rw [hw9];clear hw9 w9)
 go_loopw [1,6] (fun kv lv wr=>∃ (cur:Nat) (P:List Nat),kv=.int .i64 (cur:Int)∧cur<L∧P.length+cur≤300∧Hid (chL (ps.map nd) k=P++chL (ps.map nd) cur)∧Hid (wr.ownsRow W.heap.size 3 1 lv (P++[cur]).length ((P++[cur]).map numV))∧Hid (Bw W wr)) (fun kv _ _=>(intOf kv).toNat)
 case atStart=>exact ⟨k,[],rfl,hkL,by simp;omega,rfl,Zca W _ rfl _ _ _ _ _ (Nat.le_refl _) (by unfold maxLen;omega) rfl,(Below.refl _ _).alloc (Nat.le_refl _) _⟩
 case round =>
  obtain ⟨cur,P,rfl,hcur,hPc,hch,hO,hB⟩:=hrel
  by_cases h0:cur=0
  ·subst h0
   have HE:Hid (chL (ps.map nd) k=P++[0]):=hch.out
   obtain ⟨va,vn,rfl⟩:=ownv hO.out
   clear hch
   go_wp2
   refine bodyPost_ret (results_tmp2 rfl _ _ _) rfl ⟨⟨.slice va (P++[0]).length vn,rfl,?_⟩,hB.out⟩
   rw [HE.out];exact hO.out
  ·have h0I:¬ (cur:Int)=0:=by omega
   obtain ⟨c,hc⟩:∃ c,cs[cur]?=some c:=⟨_,List.getElem?_eq_getElem (by rw [HL.out];exact hcur)⟩
   have hsu:=HT.out.super hc (by omega)
   have hcurp:cur<(ps.map nd).length:=by rw [List.length_map,← HT.out.tw.len,HL.out];exact hcur
   have hsl:=HT.out.wi.wo.spLt hcurp (by omega)
   have hcons:=Qs HT.out.wi.wo hcurp (by omega)
   have HNX:Hid (chL (ps.map nd) k=(P++[cur])++chL (ps.map nd) (spO (ps.map nd) cur)):=by rw [Hid,hch.out,hcons];simp
   obtain ⟨g,cap,vi,vm,b0,hlt,hgl,c0,c1,c2,c3,c4,c5,_,_⟩:=(HR.out.below hB.out).cells hc
   have HN1:Hid (Calls Tryz.prog 57 #[.pointer (some ⟨b,0,none⟩),.string c.su] wr fun e w'=>e=.returned (.int .i64 ((spO (ps.map nd) cur:Nat):Int))∧w'=wr):=by rw [← hsu];exact HN.out wr c hB.out
   rw [HL.out] at b0
   generalize spO (ps.map nd) cur=s at *
   have hcI:(cur:Int)<(L:Int):=by omega
   obtain ⟨va,vn,rfl⟩:=ownv hO.out
   have hPl:(P++[cur]).length=P.length+1:=by simp
   rw [hPl] at hO
   clear hcons hch hsu hc HN HI c0 c2 c3 c4 c5
   go_wp2_with (first
    | (go_at_call 57;refine HN1.out.mono ?_;rintro e w9 ⟨rfl,hw9⟩;rw [hw9];clear hw9 w9 HN1)
    | (at_builtin;refine wpList_append_own _ rfl _ _ 41 rfl W.heap.size 3 i0 (.int .i64 0) 1 8 Tryz.underlying41 hi0 hz0 hz1 hz2 rfl (by decide) (.slice va (P++[cur]).length vn) (P.length+1) ((P++[cur]).map numV) (by first|rfl|(rw [hPl];rfl)) (by rw [hPl];exact hO.out.alloc _) ⟨wr.heap.size,0,none⟩ 1 1 [.int .i64 (s:Int)] rfl rfl ?c1 ?c2 ?c3 ?c4 ?c5 ?_))
   case c1=>intro jj u hj;rw [addr_add];cases jj with
    | zero=>simp at hj;subst hj;simp [go_sem]
    | succ jj=>simp at hj
   case c2=>intro u hu;simp at hu;subst hu;rfl
   case c3=>unfold maxLen;omega
   case c4=>omega
   case c5=>have:=hB.out.size;simp;omega
   intro v' w2 hown hgrow _
   obtain ⟨va2,vn2,rfl⟩:=ownv hown
   have B2:Hid (Bw W w2):=by
    have hb1:Bw W (wr.alloc (.cells #[.int .i64 (s:Int)] 3)):=hB.out.alloc hB.out.size _
    refine hb1.grown hgrow hb1.size (fun x hx=>?_)
    have:=(hO.out.lt x hx).1
    omega
   have O2:Hid (w2.ownsRow W.heap.size 3 1 (.slice va2 (P.length+1+1) vn2) ((P++[cur])++[s]).length (((P++[cur])++[s]).map numV)):=by
    have e:((P++[cur])++[s]).map numV=P.map numV++[numV cur,.int .i64 (s:Int)]:=by simp [numV]
    have e2:((P++[cur])++[s]).length=P.length+1+1:=by simp
    rw [Hid,e,e2];simpa [numV] using hown
   clear hown hgrow
   go_wp2
   go_roundw
   case rel=>exact ⟨s,P++[cur],rfl,by omega,by omega,HNX,O2,B2⟩
   case measure=>simp [intOf];omega
theorem Zjf {a b:List (List UInt8)} (h:X0 a=X0 b):a=b:=by
 induction a generalizing b with
 | nil=>cases b with
   | nil=>rfl
   | cons y t=>simp [X0] at h
 | cons x r ih=>cases b with
   | nil=>simp [X0] at h
   | cons y t =>
     simp only [X0,List.map_cons,List.cons.injEq,Value.string.injEq,ByteArray.mk.injEq] at h
     have e1:x=y:=by have:=congrArg Array.toList h.1;simpa using this
     rw [e1,ih h.2]
theorem TwW.ifaces {cs:List Cls} {ps:List Plc} (h:TwW cs ps) (hJ:WJ ps) {k:Nat} {c:Cls} (hk:cs[k]?=some c):∃ ks:List Nat,ks.length=c.ifs.length∧(∀ (i:Nat) (p:List UInt8),c.ifs[i]?=some p→∃ j,ks[i]?=some j∧nmdI p cs 0=((j:Nat):Int)∧j<k)∧clO (ps.map nd) k=Z4 (ps.map Plc.cl) (spO (ps.map nd) k) ks:=by
 obtain ⟨q,hq,hc⟩:=h.tw.at hk
 obtain ⟨names,ks,h1,_,_,h4,h5,h6,h7⟩:=hJ k q hq
 have e:names=c.ifs:=by
  rw [hc] at h1
  exact (Zjf h1).symm
 subst e
 refine ⟨ks,h4,fun i p hp=>?_,?_⟩
 ·obtain ⟨j,hj,hl⟩:=h5 i p hp
  exact ⟨j,hj,by rw [Xn h.tw h.nm,hl,lkI],h6 j (List.mem_of_getElem? hj)⟩
 ·have e1:clO (ps.map nd) k=q.cl:=by rw [clO,nd_at' hq];rfl
  have e2:spO (ps.map nd) k=q.sp:=by rw [spO,nd_at' hq];rfl
  rw [e1,e2];exact h7
structure ClL (ps:List Plc) (l:List Nat):Prop where
 up:∀ x∈l,∀ y∈clO (ps.map nd) x,y∈l
 nod:l.Nodup
 lt:∀ x∈l,x<ps.length
theorem ClL.nil (ps:List Plc):ClL ps []:=⟨fun x hx=>by simp at hx,List.nodup_nil,fun x hx=>by simp at hx⟩
theorem ClL.len {ps:List Plc} {l:List Nat} (h:ClL ps l):l.length≤ps.length:=Yh _ _ h.nod h.lt
theorem ClL.take {ps:List Plc} {l:List Nat} (hW:WI ps) (h:ClL ps l) (k:Nat) (hk:k<ps.length):ClL ps (Zi l (clO (ps.map nd) k)):=by
 refine ⟨fun x hx y hy=>?_,Yd _ _ h.nod,fun x hx=>?_⟩
 ·rcases (Z8 _ _ _).1 hx with hx|hx
  ·exact (Z8 _ _ _).2 (.inl (h.up x hx y hy))
  ·obtain ⟨_,_,p,hp,_,h3⟩:=Xw hW.wo hx
   exact (Z8 _ _ _).2 (.inr (h3 y (by rw [clO,hp] at hy;exact hy)))
 ·rcases (Z8 _ _ _).1 hx with hx|hx
  ·exact h.lt x hx
  ·have:=(Xw hW.wo hx).1
   omega
theorem Zeu {ps:List Plc} {l:List Nat} (h:ClL ps l) {k:Nat} (hk:k∈l):gathF (ps.map Plc.cl) l k=l:=by
 rw [gathF,Zde,Zdx (h.up k hk)]
 exact Zdx (fun x hx=>by simp at hx;rw [hx];exact hk)
theorem Zhe {ps:List Plc} (hW:WI ps) {l:List Nat} {k:Nat} (hk:¬ k∈l):gathF (ps.map Plc.cl) l k=Zi l (clO (ps.map nd) k)++[k]:=by
 rw [gathF,Zde]
 have hn:¬ k∈Zi l (clO (ps.map nd) k):=fun hm=>by
  rcases (Z8 _ _ _).1 hm with hm|hm
  ·exact hk hm
  ·have:=(Xw hW.wo hm).1
   omega
 have hc:(Zi l (clO (ps.map nd) k)).contains k=false:=by simpa using hn
 rw [Zi,Zi,hc];rfl
theorem ClL.gathF {ps:List Plc} {l:List Nat} (hW:WI ps) (h:ClL ps l) (k:Nat) (hk:k<ps.length):ClL ps (gathF (ps.map Plc.cl) l k):=by
 by_cases hm:k∈l
 ·rw [Zeu h hm];exact h
 ·rw [Zhe hW hm]
  have h1:=h.take hW k hk
  have hn:¬ k∈Zi l (clO (ps.map nd) k):=fun hm2=>by
   rcases (Z8 _ _ _).1 hm2 with hm2|hm2
   ·exact hm hm2
   ·have:=(Xw hW.wo hm2).1
    omega
  refine ⟨fun x hx y hy=>?_,?_,fun x hx=>?_⟩
  ·rcases List.mem_append.1 hx with hx|hx
   ·exact List.mem_append_left _ (h1.up x hx y hy)
   ·simp at hx
    subst hx
    exact List.mem_append_left _ ((Z8 _ _ _).2 (.inr hy))
  ·refine List.nodup_append.2 ⟨h1.nod,by simp,fun a ha b hb hab=>?_⟩
   simp at hb
   rw [hab,hb] at ha
   exact hn ha
  ·rcases List.mem_append.1 hx with hx|hx
   ·exact h1.lt x hx
   ·simp at hx;omega
theorem Zkh {ps:List Plc} (l:List Nat) (k:Nat) (ks:List Nat) (h:clO (ps.map nd) k=Z4 (ps.map Plc.cl) (spO (ps.map nd) k) ks):Zi l (clO (ps.map nd) k)=ks.foldl (gathF (ps.map Plc.cl)) (Zi l (clO (ps.map nd) (spO (ps.map nd) k))):=by
 rw [h,Z4,Zbe,Q7,Zde];rfl
theorem Zfs {b:Nat} {cs:List Cls} {ps:List Plc} {W:World} (h:RAt b cs W) (ht:TwW cs ps) (hJ:WJ ps):∀ (id:Nat),id<ps.length→∀ (w:World) (v:Value) (l:List Nat),Bw W w→w.ownsRow W.heap.size 3 1 v l.length (l.map numV)→ClL ps l→Calls Tryz.prog 70 #[.pointer (some ⟨b,0,none⟩),.int .i64 (id:Int),v] w fun e w'=>(∃ v',e=.returned v'∧w'.ownsRow W.heap.size 3 1 v' (Zi l (clO (ps.map nd) id)).length ((Zi l (clO (ps.map nd) id)).map numV))∧Bw W w':=by
 intro id
 induction id using Nat.strongRecOn with
 | _ id ih =>
 intro hid w v l hw hrow hcl
 obtain ⟨i0,hi0,hz0,hz1,hz2⟩:=info_parts Tryz.hinfo3
 have hlen:=ht.tw.len
 have h3:=ht.wi.hi
 obtain ⟨c,hc⟩:∃ c,cs[id]?=some c:=⟨_,List.getElem?_eq_getElem (by omega)⟩
 obtain ⟨ks,hk1,hk2,hk3⟩:=ht.ifaces hJ hc
 have hgt:=Zkh (ps:=ps) l id ks hk3
 have HR:Hid (RAt b cs W):=h
 have HTW:Hid (TwW cs ps):=ht
 have HW3:Hid (ps.length≤300):=h3
 have HCC:Hid (cs[id]?=some c):=hc
 have HKS:Hid (∀ (i:Nat) (p:List UInt8),c.ifs[i]?=some p→∃ j,ks[i]?=some j∧nmdI p cs 0=((j:Nat):Int)∧j<id):=hk2
 have HN:Hid (∀ (w':World) (s:ByteArray),Bw W w'→Calls Tryz.prog 57 #[.pointer (some ⟨b,0,none⟩),.string s] w' fun e w''=>e=.returned (.int .i64 (nmdI s.toList cs 0))∧w''=w'):=fun w' s hb=>Zat (h.below hb) s (by omega)
 have HIH:Hid (∀ (j:Nat),j<id→∀ (w:World) (v:Value) (l:List Nat),Bw W w→w.ownsRow W.heap.size 3 1 v l.length (l.map numV)→ClL ps l→Calls Tryz.prog 70 #[.pointer (some ⟨b,0,none⟩),.int .i64 (j:Int),v] w fun e w'=>(∃ v',e=.returned v'∧w'.ownsRow W.heap.size 3 1 v' (Zi l (clO (ps.map nd) j)).length ((Zi l (clO (ps.map nd) j)).map numV))∧Bw W w'):=fun j hj=>ih j hj (by omega)
 have HHA:Hid (∀ (v:Value) (l:List Nat) (p:Nat) (w:World),w.ownsRow W.heap.size 3 1 v l.length (l.map numV)→l.length≤1000000→Calls Tryz.prog 111 #[v,.int .i64 (p:Int)] w fun e w'=>e=.returned (.bool (l.contains p))∧Bw w w'):=fun v l p w hr hl=>Zc2 v l p w (Yl hr) hl
 obtain ⟨n,hn⟩:∃ n,c.ifs.length=n:=⟨_,rfl⟩
 have HNI:Hid (c.ifs.length=n):=hn
 have HKL:Hid (ks.length=n):=hk1.trans hn
 obtain ⟨L,hL⟩:∃ L,cs.length=L:=⟨_,rfl⟩
 have HL:Hid (cs.length=L):=hL
 have hidL:id<L:=by omega
 have hidI:(id:Int)<(L:Int):=by omega
 have HCL:Hid (ClL ps l):=hcl
 have HRW:Hid (w.ownsRow W.heap.size 3 1 v l.length (l.map numV)):=hrow
 have HBW:Hid (Bw W w):=hw
 have hnb:n≤1000000:=by
  obtain ⟨q,hq,hqc⟩:=ht.tw.at hc
  have h1:=(ht.wi.pb q (List.mem_of_getElem? hq)).ni
  rw [hqc] at h1
  rw [← hn];exact h1
 obtain ⟨va0,vn0,rfl⟩:=ownv hrow
 by_cases h0:id=0
 ·have hks:ks=[]:=by
   cases hcs:c.ifs with
   | nil=>exact List.length_eq_zero_iff.1 (by rw [hk1,hcs];rfl)
   | cons p r =>
     obtain ⟨j,_,_,hj⟩:=hk2 0 p (by rw [hcs];rfl)
     omega
  have hz:clO (ps.map nd) id=[]:=by
   obtain ⟨n0,h1,_,h2,_⟩:=ht.wi.wo.top
   rw [h0,clO,h1];exact h2
  have HX1:Hid (Zi l (clO (ps.map nd) id)=l):=by rw [Hid,hz];rfl
  have hn0:n=0:=by rw [← HKL.out,hks];rfl
  subst hn0
  subst h0
  obtain ⟨g,cap,vi,vm,b0,hlt0,hgl,c0,c1,c2,c3,c4,c5,hst,_⟩:=(h.below hw).cells hc
  rw [hL] at b0
  obtain ⟨ao,icap,rfl,_,_,_⟩:=hst
  rw [hn] at c2
  have hL0:(0:Int)<(L:Int):=by omega
  clear hlen h3 hc hk1 hk2 hk3 hgt h ht hJ ih hn hL hcl hrow hw hks hz HIH HHA HN HKS c0 c1 c3 c4 c5
  go_enter Tryz.func70,Tryz.ntmps70
  go_wp2
  go_loopw [2,7] (fun lv iv wr=>lv=.slice va0 l.length vn0∧iv=.int .i64 0∧wr=w) (fun _ _ _=>0)
  case atStart=>exact ⟨rfl,rfl,rfl⟩
  case round =>
   obtain ⟨rfl,rfl,rfl⟩:=hrel
   go_wp2
   refine bodyPost_ret (results_tmp rfl _ _ _) rfl ⟨⟨.slice va0 l.length vn0,rfl,?_⟩,HBW.out⟩
   rw [HX1.out];exact HRW.out
 ·obtain ⟨l1,hl1⟩:∃ l1,l1=Zi l (clO (ps.map nd) (spO (ps.map nd) id)):=⟨_,rfl⟩
  have HX1:Hid (ks.foldl (gathF (ps.map Plc.cl)) l1=Zi l (clO (ps.map nd) id)):=by rw [Hid,hl1];exact hgt.symm
  have hidp:id<(ps.map nd).length:=by rw [List.length_map];exact hid
  have hsl:=ht.wi.wo.spLt hidp (by omega)
  have hsu:=ht.super hc (by omega)
  have HCL1:Hid (ClL ps l1):=by rw [Hid,hl1];exact hcl.take ht.wi _ (by omega)
  have HS1:Hid (∀ w',Bw W w'→Calls Tryz.prog 57 #[.pointer (some ⟨b,0,none⟩),.string c.su] w' fun e w''=>e=.returned (.int .i64 ((spO (ps.map nd) id:Nat):Int))∧w''=w'):=fun w' hb=>by rw [← hsu];exact HN.out w' c.su hb
  have HS2:Hid (Calls Tryz.prog 70 #[.pointer (some ⟨b,0,none⟩),.int .i64 ((spO (ps.map nd) id:Nat):Int),.slice va0 l.length vn0] w fun e w'=>(∃ v',e=.returned v'∧w'.ownsRow W.heap.size 3 1 v' l1.length (l1.map numV))∧Bw W w'):=by rw [hl1];exact HIH.out _ hsl w _ l hw hrow hcl
  obtain ⟨g0,cap0,vi0,vm0,b00,hlt00,hgl0,_,c10,_,_,_,_,_,_⟩:=(h.below hw).cells hc
  rw [hL] at b00
  generalize spO (ps.map nd) id=sp at *
  have h0I:¬ (id:Int)=0:=by omega
  clear hlen h3 hc hk1 hk2 hk3 hgt h ht hJ ih hn hL hcl hrow hw hl1 hsu
  go_enter Tryz.func70,Tryz.ntmps70
  go_wp2_with (first
   | (go_at_call 57;refine (HS1.out _ HBW.out).mono ?_;rintro e w9 ⟨rfl,hw9⟩;rw [hw9];clear hw9 w9 HS1)
   | (go_at_call 70;refine HS2.out.mono ?_;rintro e w1 ⟨⟨v1,rfl,ho⟩,hb⟩;obtain ⟨va1,vn1,rfl⟩:=ownv ho;have O1:Hid (w1.ownsRow W.heap.size 3 1 (.slice va1 l1.length vn1) l1.length (l1.map numV)):=ho;have B1:Hid (Bw W w1):=hb;clear hb ho HS2))
  go_loopw [2,7] (fun lv iv wr=>∃ (i:Nat),iv=.int .i64 (i:Int)∧i≤n∧Hid (wr.ownsRow W.heap.size 3 1 lv ((ks.take i).foldl (gathF (ps.map Plc.cl)) l1).length (((ks.take i).foldl (gathF (ps.map Plc.cl)) l1).map numV))∧Hid (ClL ps ((ks.take i).foldl (gathF (ps.map Plc.cl)) l1))∧Hid (Bw W wr)) (fun _ iv _=>n - (intOf iv).toNat)
  case atStart=>exact ⟨0,rfl,Nat.zero_le _,O1,HCL1,B1⟩
  case round =>
   obtain ⟨i,rfl,hi,hO,hC,hB⟩:=hrel
   obtain ⟨g,cap,vi,vm,b0,hlt0,hgl,c0,c1,c2,c3,c4,c5,hst,_⟩:=(HR.out.below hB.out).cells HCC.out
   rw [HL.out] at b0
   obtain ⟨ao,icap,rfl,hq1,hq2,hq3⟩:=hst
   rw [HNI.out] at c2 hq1
   have HQ3:Hid _:=hq3
   clear c0 c1 c3 c4 c5 hq3
   by_cases hlt:i<n
   ·have hltI:(i:Int)<(n:Int):=by omega
    obtain ⟨p,hp⟩:∃ p,c.ifs[i]?=some p:=⟨_,List.getElem?_eq_getElem (by rw [HNI.out];exact hlt)⟩
    obtain ⟨k,hk,hkn,hkl⟩:=HKS.out i p hp
    obtain ⟨bk,o,rfl,hbk,hcs⟩:=HQ3.out (fun e=>by rw [e] at hp;simp at hp)
    have hce:=hcs i p hp
    have hfold:(ks.take (i+1)).foldl (gathF (ps.map Plc.cl)) l1=gathF (ps.map Plc.cl) ((ks.take i).foldl (gathF (ps.map Plc.cl)) l1) k:=by
     rw [List.take_add_one,hk,List.foldl_append];rfl
    have HN1:Hid (Calls Tryz.prog 57 #[.pointer (some ⟨b,0,none⟩),.string ⟨p.toArray⟩] wr fun e w''=>e=.returned (.int .i64 (k:Int))∧w''=wr):=by
     have:=HN.out wr ⟨p.toArray⟩ hB.out
     rw [show (ByteArray.mk p.toArray).toList=p from by rw [Lib.toList_data],hkn] at this
     exact this
    obtain ⟨Lc,hLc⟩:∃ Lc,(ks.take i).foldl (gathF (ps.map Plc.cl)) l1=Lc:=⟨_,rfl⟩
    rw [hLc] at hO hC hfold
    have HFO:Hid _:=hfold
    have hLb:Lc.length≤300:=Nat.le_trans hC.out.len HW3.out
    have HA1:Hid (∀ (v:Value),wr.ownsRow W.heap.size 3 1 v Lc.length (Lc.map numV)→Calls Tryz.prog 111 #[v,.int .i64 (k:Int)] wr fun e w'=>e=.returned (.bool (Lc.contains k))∧Bw wr w'):=fun v hr=>HHA.out v Lc k wr hr (by omega)
    have HG1:Hid (∀ (w:World) (v:Value),Bw W w→w.ownsRow W.heap.size 3 1 v Lc.length (Lc.map numV)→Calls Tryz.prog 70 #[.pointer (some ⟨b,0,none⟩),.int .i64 (k:Int),v] w fun e w'=>(∃ v',e=.returned v'∧w'.ownsRow W.heap.size 3 1 v' (Zi Lc (clO (ps.map nd) k)).length ((Zi Lc (clO (ps.map nd) k)).map numV))∧Bw W w'):=fun w v hb hr=>HIH.out k hkl w v Lc hb hr hC.out
    have HCN:Hid (ClL ps (gathF (ps.map Plc.cl) Lc k)):=hC.out.gathF HTW.out.wi k (by omega)
    have HG2:Hid (Lc.contains k=true→gathF (ps.map Plc.cl) Lc k=Lc):=fun he=>Zeu hC.out (by simpa using he)
    have HG3:Hid (Lc.contains k=false→gathF (ps.map Plc.cl) Lc k=Zi Lc (clO (ps.map nd) k)++[k]∧(Zi Lc (clO (ps.map nd) k)).length≤300):=fun he=>⟨Zhe HTW.out.wi (by simpa using he),Nat.le_trans (hC.out.take HTW.out.wi k (by omega)).len HW3.out⟩
    obtain ⟨va,vn,rfl⟩:=ownv hO.out
    clear hcs hp hk hkn hfold hLc HX1 HN HIH HHA HQ3
    cases hz:Lc.contains k with
    | true =>
      rw [hz] at HA1
      have he:=HG2.out hz
      rw [he] at HFO HCN
      clear HG1 HG2 HG3 hz he
      go_wp2_with (first
       | (go_at_call 57;refine HN1.out.mono ?_;rintro e w9 ⟨rfl,hw9⟩;rw [hw9];clear hw9 w9 HN1)
       | (go_at_call 111;refine (HA1.out _ hO.out).mono ?_;rintro e w2 ⟨rfl,hb⟩;have O2:Hid (w2.ownsRow W.heap.size 3 1 (.slice va Lc.length vn) Lc.length (Lc.map numV)):=Zm hO.out hb;have B2:Hid (Bw W w2):=Za hB.out hb;clear hb HA1))
      go_roundw
      case rel=>exact ⟨i+1,by go_num,by omega,by rw [HFO.out];exact O2,by rw [HFO.out];exact HCN,B2⟩
      case measure=>simp [intOf];omega
    | false =>
      rw [hz] at HA1
      obtain ⟨he,hlb⟩:=HG3.out hz
      rw [he] at HFO HCN
      generalize Zi Lc (clO (ps.map nd) k)=T at *
      clear HG2 HG3 hz he
      go_wp2_with (first
       | (go_at_call 57;refine HN1.out.mono ?_;rintro e w9 ⟨rfl,hw9⟩;rw [hw9];clear hw9 w9 HN1)
       | (go_at_call 111;refine (HA1.out _ hO.out).mono ?_;rintro e w2 ⟨rfl,hb⟩;have O2:Hid (w2.ownsRow W.heap.size 3 1 (.slice va Lc.length vn) Lc.length (Lc.map numV)):=Zm hO.out hb;have B2:Hid (Bw W w2):=Za hB.out hb;clear hb HA1)
       | (go_at_call 70;refine (HG1.out _ _ B2.out O2.out).mono ?_;rintro e w3 ⟨⟨v3,rfl,ho⟩,hb⟩;obtain ⟨va3,vn3,rfl⟩:=ownv ho;have O3:Hid (w3.ownsRow W.heap.size 3 1 (.slice va3 T.length vn3) T.length (T.map numV)):=ho;have B3:Hid (Bw W w3):=hb;clear hb ho HG1)
       | (at_builtin;refine wpList_append_own _ rfl _ _ 41 rfl W.heap.size 3 i0 (.int .i64 0) 1 8 Tryz.underlying41 hi0 hz0 hz1 hz2 rfl (by decide) (.slice va3 T.length vn3) T.length (T.map numV) rfl (O3.out.alloc _) ⟨w3.heap.size,0,none⟩ 1 1 [.int .i64 (k:Int)] rfl rfl ?c1 ?c2 ?c3 ?c4 ?c5 ?_))
      case c1=>intro jj u hj;rw [addr_add];cases jj with
       | zero=>simp at hj;subst hj;simp [go_sem]
       | succ jj=>simp at hj
      case c2=>intro u hu;simp at hu;subst hu;rfl
      case c3=>unfold maxLen;omega
      case c4=>omega
      case c5=>have:=B3.out.size;simp;omega
      intro v' w4 hown hgrow _
      obtain ⟨va4,vn4,rfl⟩:=ownv hown
      have B4:Hid (Bw W w4):=by
       have hb1:Bw W (w3.alloc (.cells #[.int .i64 (k:Int)] 3)):=B3.out.alloc B3.out.size _
       refine hb1.grown hgrow hb1.size (fun x hx=>?_)
       have:=(O3.out.lt x hx).1
       omega
      have O4:Hid (w4.ownsRow W.heap.size 3 1 (.slice va4 (T.length+1) vn4) (T++[k]).length ((T++[k]).map numV)):=by
       rw [Hid,List.length_append,List.map_append];exact hown
      clear hown hgrow
      go_wp2
      go_roundw
      case rel=>exact ⟨i+1,by go_num,by omega,by rw [HFO.out];exact O4,by rw [HFO.out];exact HCN,B4⟩
      case measure=>simp [intOf];omega
   ·have e:i=n:=by omega
    have HT:Hid ((ks.take i).foldl (gathF (ps.map Plc.cl)) l1=Zi l (clO (ps.map nd) id)):=by
     rw [Hid,e,← HKL.out,List.take_of_length_le (Nat.le_refl _)]
     exact HX1.out
    rw [HT.out] at hO
    subst e
    obtain ⟨va,vn,rfl⟩:=ownv hO.out
    clear HT HX1
    go_wp2
    refine bodyPost_ret (results_tmp rfl _ _ _) rfl ⟨⟨_,rfl,?_⟩,hB.out⟩
    exact hO.out
theorem rIn_t {b:Nat} {cs:List Cls} {ps:List Plc} {W:World} (h:RAt b cs W) (ht:TwW cs ps) (i:Int):Calls Tryz.prog 63 #[.pointer (some ⟨b,0,none⟩),.int .i64 i] W fun e w'=>e=.returned (.bool (plcI ps i).isSome)∧w'=W:=by
 have:=Zfr h i
 rcases ht.tw.clsI i with ⟨h1,h2⟩|⟨k,c,q,rfl,_,_,_,h1,h2⟩
 ·rw [h1] at this;rw [h2];exact this
 ·rw [h1] at this;rw [h2];exact this
theorem Zh9 {b:Nat} {cs:List Cls} {ps:List Plc} {W:World} (h:RAt b cs W) (ht:TwW cs ps) (hJ:WJ ps) (x y:Int):Calls Tryz.prog 143 #[.pointer (some ⟨b,0,none⟩),.int .i64 x,.int .i64 y] W fun e w'=>e=.returned (.bool (extI ps x y))∧Bw W w':=by
 have HI:Hid (∀ i z w,Bw W w→(plcI ps i).isSome=z→Calls Tryz.prog 63 #[.pointer (some ⟨b,0,none⟩),.int .i64 i] w fun e w'=>e=.returned (.bool z)∧w'=w):=fun i z w hb hz=>by rw [← hz];exact rIn_t (h.below hb) ht i
 rcases Yg ps x with ⟨h1,_⟩|⟨k,p,rfl,h2,h1⟩
 ·have e:extI ps x y=false:=by rw [extI,h1];rfl
  rw [e]
  have HX:Hid (∀ i w,Bw W w→i=x→Calls Tryz.prog 63 #[.pointer (some ⟨b,0,none⟩),.int .i64 i] w fun e w'=>e=.returned (.bool false)∧w'=w):=fun i w hb hi=>by rw [hi];exact HI.out x false w hb (by rw [h1];rfl)
  clear h ht hJ HI h1 e
  go_enter Tryz.func143,Tryz.ntmps143
  go_wp2_with (go_at_call 63;refine (HX.out _ _ (Below.refl _ _) (by rfl)).mono ?_;rintro e w9 ⟨rfl,hw9⟩;rw [hw9];clear hw9 w9)
  exact bodyPost_ret (results_tmp rfl _ _ _) rfl ⟨rfl,Below.refl _ _⟩
 ·have HX:Hid (∀ i w,Bw W w→i=(k:Int)→Calls Tryz.prog 63 #[.pointer (some ⟨b,0,none⟩),.int .i64 i] w fun e w'=>e=.returned (.bool true)∧w'=w):=fun i w hb hi=>by rw [hi];exact HI.out k true w hb (by rw [h1];rfl)
  rcases Yg ps y with ⟨g1,_⟩|⟨j,q,rfl,g2,g1⟩
  ·have e:extI ps k y=false:=by rw [extI,h1,g1];rfl
   rw [e]
   have HY:Hid (∀ i w,Bw W w→i=y→Calls Tryz.prog 63 #[.pointer (some ⟨b,0,none⟩),.int .i64 i] w fun e w'=>e=.returned (.bool false)∧w'=w):=fun i w hb hi=>by rw [hi];exact HI.out y false w hb (by rw [g1];rfl)
   clear h ht hJ HI h1 g1 e
   go_enter Tryz.func143,Tryz.ntmps143
   go_wp2_with (first
    | (go_at_call 63;refine (HX.out _ _ (Below.refl _ _) (by rfl)).mono ?_;rintro e w9 ⟨rfl,hw9⟩;rw [hw9];clear hw9 w9)
    | (go_at_call 63;refine (HY.out _ _ (Below.refl _ _) (by rfl)).mono ?_;rintro e w9 ⟨rfl,hw9⟩;rw [hw9];clear hw9 w9))
   exact bodyPost_ret (results_tmp rfl _ _ _) rfl ⟨rfl,Below.refl _ _⟩
  ·have hkl:=(List.getElem?_eq_some_iff.1 h2).1
   have e:extI ps k j=((chL (ps.map nd) k).contains j||(clO (ps.map nd) k).contains j):=by rw [extI,h1,g1];rfl
   rw [e]
   have HY:Hid (∀ i w,Bw W w→i=(j:Int)→Calls Tryz.prog 63 #[.pointer (some ⟨b,0,none⟩),.int .i64 i] w fun e w'=>e=.returned (.bool true)∧w'=w):=fun i w hb hi=>by rw [hi];exact HI.out j true w hb (by rw [g1];rfl)
   have HC:Hid (Calls Tryz.prog 26 #[.pointer (some ⟨b,0,none⟩),.int .i64 (k:Int)] W fun e w'=>(∃ v,e=.returned (.tuple #[v,.int .i64 0])∧w'.ownsRow W.heap.size 3 1 v (chL (ps.map nd) k).length ((chL (ps.map nd) k).map numV))∧Bw W w'):=Zib h ht k hkl
   have hcb:(chL (ps.map nd) k).length≤1000000:=by
    have hkn:k<(ps.map nd).length:=by rw [List.length_map];exact hkl
    have:=Yh (k+1) _ (ch_nodup ht.wi.wo k hkn) (fun i hi=>Nat.lt_succ_of_le (ch_le ht.wi.wo k hkn i hi))
    have:=ht.wi.hi
    omega
   have hclb:(clO (ps.map nd) k).length≤1000000:=by
    have:=Yh k _ (Zhq ht.wi.wo k) (fun i hi=>(Xw ht.wi.wo hi).1)
    have:=ht.wi.hi
    omega
   have HG:Hid (∀ w,Bw W w→Calls Tryz.prog 70 #[.pointer (some ⟨b,0,none⟩),.int .i64 (k:Int),.slice none 0 0] w fun e w'=>(∃ v',e=.returned v'∧w'.ownsRow W.heap.size 3 1 v' (clO (ps.map nd) k).length ((clO (ps.map nd) k).map numV))∧Bw W w'):=fun w hb=>by
    have:=Zfs h ht hJ k hkl w (.slice none 0 0) [] hb (World.ownsRow_nil _ _ _ _) (ClL.nil ps)
    rw [take_nil _ (Zhq ht.wi.wo k)] at this
    exact this
   have HH1:Hid (∀ (v:Value) (w:World),w.ownsRow W.heap.size 3 1 v (chL (ps.map nd) k).length ((chL (ps.map nd) k).map numV)→Calls Tryz.prog 111 #[v,.int .i64 (j:Int)] w fun e w'=>e=.returned (.bool ((chL (ps.map nd) k).contains j))∧Bw w w'):=fun v w hr=>Zc2 v _ j w (Yl hr) hcb
   have HH2:Hid (∀ (v:Value) (w:World),w.ownsRow W.heap.size 3 1 v (clO (ps.map nd) k).length ((clO (ps.map nd) k).map numV)→Calls Tryz.prog 111 #[v,.int .i64 (j:Int)] w fun e w'=>e=.returned (.bool ((clO (ps.map nd) k).contains j))∧Bw w w'):=fun v w hr=>Zc2 v _ j w (Yl hr) hclb
   generalize (chL (ps.map nd) k).contains j=z1 at *
   generalize (clO (ps.map nd) k).contains j=z2 at *
   generalize chL (ps.map nd) k=C at *
   generalize clO (ps.map nd) k=G at *
   clear h ht hJ HI h1 h2 g1 g2 e hcb hclb hkl
   cases z1
   all_goals
    go_enter Tryz.func143,Tryz.ntmps143
    go_wp2_with (first
     | (go_at_call 63;refine (HX.out _ _ (Below.refl _ _) (by rfl)).mono ?_;rintro e w9 ⟨rfl,hw9⟩;rw [hw9];clear hw9 w9)
     | (go_at_call 63;refine (HY.out _ _ (Below.refl _ _) (by rfl)).mono ?_;rintro e w9 ⟨rfl,hw9⟩;rw [hw9];clear hw9 w9)
     | (go_at_call 26;refine HC.out.mono ?_;rintro e w1 ⟨⟨v1,rfl,ho⟩,hb⟩;obtain ⟨va1,vn1,rfl⟩:=ownv ho;have O1:Hid (w1.ownsRow W.heap.size 3 1 (.slice va1 C.length vn1) C.length (C.map numV)):=ho;have B1:Hid (Bw W w1):=hb;clear hb ho HC)
     | (go_at_call 111;refine (HH1.out _ _ O1.out).mono ?_;rintro e w2 ⟨rfl,hb⟩;have B2:Hid (Bw W w2):=Za B1.out hb;clear hb HH1 O1)
     | (go_at_call 70;refine (HG.out _ B2.out).mono ?_;rintro e w3 ⟨⟨v3,rfl,ho⟩,hb⟩;obtain ⟨va3,vn3,rfl⟩:=ownv ho;have O3:Hid (w3.ownsRow W.heap.size 3 1 (.slice va3 G.length vn3) G.length (G.map numV)):=ho;have B3:Hid (Bw W w3):=hb;clear hb ho HG)
     | (go_at_call 111;refine (HH2.out _ _ O3.out).mono ?_;rintro e w4 ⟨rfl,hb⟩;have B4:Hid (Bw W w4):=Za B3.out hb;clear hb HH2 O3))
    first
     | exact bodyPost_ret (results_tmp rfl _ _ _) rfl ⟨rfl,B4.out⟩
     | exact bodyPost_ret (results_tmp rfl _ _ _) rfl ⟨rfl,B2.out⟩
end Go.Proofs.YtlnojhhddinjkaaGreat
