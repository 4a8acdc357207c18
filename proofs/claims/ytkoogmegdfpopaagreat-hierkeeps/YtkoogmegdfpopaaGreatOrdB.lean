import Derived.Test.YtkoogmegdfpopaaGreatHrT
namespace Go.Proofs.YtkoogmegdfpopaaGreat
open Go.RowKit
theorem nd_at' {ps:List Plc} {k:Nat} {q:Plc} (h:ps[k]?=some q):(ps.map nd)[k]?=some (nd q):=by rw [List.getElem?_map,h];rfl
structure WI (ps:List Plc):Prop where
 wo:WO (ps.map nd)
 pb:∀ q∈ps,PlcB q
 lo:3≤ps.length
 hi:ps.length≤300
theorem WI.nm {ps:List Plc} (h:WI ps):∀ q∈ps,q.c.nm.size≤maxLen:=fun q hq=>(h.pb q hq).nm
theorem wi3:WI P3:=by
 refine ⟨⟨⟨nd ⟨objH,0,[]⟩,rfl,rfl,rfl,by decide⟩,?_,?_⟩,?_,by decide,by decide⟩
 ·intro k n h0 hk
  match k,hk with
  | 1,hk=>simp [P3] at hk;subst hk;exact ⟨Nat.zero_lt_one,fun p hp=>by simp [nd,P3] at hp;subst hp;exact ⟨by decide,fun i hi=>by simp at hi⟩,fun _=>rfl⟩
  | 2,hk=>simp [P3] at hk;subst hk;exact ⟨by show 0<2;decide,fun p hp=>by simp [nd,P3] at hp;subst hp;exact ⟨by decide,fun i hi=>by simp at hi⟩,fun _=>rfl⟩
  | (k+3),hk=>simp [P3] at hk
 ·intro k n hk
  have hm:n∈P3.map nd:=List.mem_of_getElem? hk
  simp [P3] at hm
  rcases hm with rfl|rfl|rfl <;> exact ⟨by simp [nd],fun i hi=>by simp [nd] at hi⟩
 ·intro q hq
  simp only [P3,List.mem_cons,List.not_mem_nil,or_false] at hq
  rcases hq with rfl|rfl|rfl
  ·exact ⟨by decide,by decide,by decide,by decide,by decide⟩
  ·exact ⟨by decide,by decide,by decide,by decide,by decide⟩
  ·exact ⟨by decide,by decide,by decide,by decide,by decide⟩
theorem Zd8 {ps:List Plc} {c:Cls} {p:Plc} (h:defN ps c=.ok p):clsB c=true∧ps.length<300∧Z4 ps c.nm.data.toList=none∧∃ s l,Zv ps c.nm c.ld (fitS c.fl) c.su.data.toList=.ok s∧ifsN ps c.nm c.ld [] c.ifs=.ok l∧p=⟨hcOf c,s,Zz (ps.map Plc.cl) s l⟩:=by
 unfold defN at h
 by_cases h1:clsB c=true
 ·rw [if_pos h1] at h
  by_cases h2:300≤ps.length
  ·rw [if_pos h2] at h;cases h
  ·rw [if_neg h2] at h
   cases h3:Z4 ps c.nm.data.toList with
   | some k=>rw [h3] at h;cases h
   | none =>
     rw [h3] at h
     simp only at h
     cases h4:Zv ps c.nm c.ld (fitS c.fl) c.su.data.toList with
     | error e=>rw [h4] at h;cases h
     | ok s =>
       rw [h4] at h
       simp only at h
       cases h5:ifsN ps c.nm c.ld [] c.ifs with
       | error e=>rw [h5] at h;cases h
       | ok l =>
         rw [h5] at h
         simp only at h
         cases h
         exact ⟨h1,by omega,rfl,s,l,rfl,rfl,rfl⟩
 ·rw [if_neg h1] at h;cases h
theorem WI.define {ps:List Plc} (h:WI ps) (c:Cls) (hc:ClsW c):WI (dfP ps (defN ps c)):=by
 cases hd:defN ps c with
 | error e=>exact h
 | ok p =>
   obtain ⟨h1,h2,_,s,l,h4,h5,rfl⟩:=Zd8 hd
   obtain ⟨b1,b2,b3⟩:=Xb h1
   show WI (ps++[_])
   refine ⟨?_,fun q hq=>?_,by simp;have:=h.lo;omega,by simp;omega⟩
   ·obtain ⟨_,q,hq,hf,_⟩:=X4 h4
    obtain ⟨t,ht,_,_,h8⟩:=Zfp _ _ _ h5
    simp only [List.nil_append] at ht
    subst ht
    simp only [fitS,Bool.and_eq_true,Bool.not_eq_true',Bool.or_eq_true,decide_eq_true_eq] at hf
    have hmap:(ps.map nd).map Nd.cl=ps.map Plc.cl:=by rw [List.map_map];rfl
    have:=h.wo.snoc (ifB c.fl) s l ⟨nd q,nd_at' hq,hf.1⟩ (fun hi=>hf.2.resolve_right (fun h0=>by rw [hi] at h0;cases h0)) (fun x hx=>?_)
    ·rw [hmap] at this
     rw [List.map_append]
     exact this
    ·obtain ⟨i,hi⟩:=List.mem_iff_getElem?.1 hx
     have hil:i<c.ifs.length:=by
      have:=(List.getElem?_eq_some_iff.1 hi).1
      omega
     obtain ⟨k,hk,ha⟩:=h8 i _ (List.getElem?_eq_getElem hil)
     rw [hi] at hk
     cases hk
     obtain ⟨_,q2,hq2,hf2,_⟩:=X4 ha
     exact ⟨nd q2,nd_at' hq2,hf2⟩
   ·rcases List.mem_append.1 hq with hq|hq
    ·exact h.pb q hq
    ·simp only [List.mem_cons,List.not_mem_nil,or_false] at hq
     subst hq
     refine ⟨show c.ifs.length≤1000000 by omega,J5 _,show (c.ms.map hmOf).length≤1000000 by rw [List.length_map];omega,fun m hm=>?_,hc.1⟩
     obtain ⟨m0,hm0,rfl⟩:=List.mem_map.1 hm
     exact ⟨Q0 _,show m0.code.length≤1000000 by have:=b3 m0 hm0;omega⟩
theorem take_nil (a:List Nat) (h:a.Nodup):Zg [] a=a:=by
 have key:∀ (a c:List Nat),(c++a).Nodup→Zg c a=c++a:=by
  intro a
  induction a with
  | nil=>intro c _;simp [Zg]
  | cons x a ih =>
    intro c hn
    have hx:¬ c.contains x=true:=fun hc=>by
     have:=List.contains_iff_mem.1 hc
     rw [List.nodup_append] at hn
     exact hn.2.2 x this x (by simp) rfl
    rw [Zg,if_neg hx,ih _ (by simpa using hn)]
    simp
 simpa using key a [] (by simpa using h)
def PC (ps:List Plc) (k:Nat) (q:Plc):Prop:=∃ (names:List (List UInt8)) (ks:List Nat),q.c.xi=Z0 names∧q.c.ni=names.length∧(∀ p∈names,p.length≤maxLen)∧ks.length=names.length∧(∀ (i:Nat) (p:List UInt8),names[i]?=some p→∃ j,ks[i]?=some j∧Z4 ps p=some j)∧(∀ j∈ks,j<k)∧q.cl=Zz (ps.map Plc.cl) q.sp ks
def WJ (ps:List Plc):Prop:=∀ (k:Nat) (q:Plc),ps[k]?=some q→PC ps k q
theorem Zdv {cls cls2:List (List Nat)} {sup:Nat} {ifs:List Nat} (hs:cls.getD sup []=cls2.getD sup []) (hi:∀ x∈ifs,cls.getD x []=cls2.getD x []):Zz cls sup ifs=Zz cls2 sup ifs:=by
 have key:∀ (l c:List Nat),(∀ x∈l,cls.getD x []=cls2.getD x [])→l.foldl (gathF cls) c=l.foldl (gathF cls2) c:=by
  intro l
  induction l with
  | nil=>exact fun c _=>rfl
  | cons x l ih =>
    intro c hl
    rw [List.foldl_cons,List.foldl_cons,gathF,gathF,hl x (by simp)]
    exact ih _ (fun y hy=>hl y (List.mem_cons_of_mem _ hy))
 rw [Zz,Zz,hs]
 exact key ifs _ hi
theorem Qx (ps:List Plc) (p:Plc) {j:Nat} (hj:j<ps.length):((ps++[p]).map Plc.cl).getD j []=(ps.map Plc.cl).getD j []:=by
 rw [List.map_append,List.getD_eq_getElem?_getD,List.getD_eq_getElem?_getD,List.getElem?_append_left (by simpa using hj)]
theorem Jj (key:List UInt8) (p:Plc):∀ (l:List Plc) (k:Nat),X7 key k (l++[p])=if Qe p=key then some (k+l.length) else X7 key k l
 | [],k=>by simp [X7]
 | q::l,k=>by
   rw [List.cons_append,X7,Jj key p l (k+1),X7]
   by_cases h:Qe p=key
   ·rw [if_pos h,if_pos h]
    simp only [List.length_cons]
    congr 1
    omega
   ·rw [if_neg h,if_neg h]
theorem Xq {ps:List Plc} {p:Plc} {key:List UInt8} {j:Nat} (h:Z4 ps key=some j) (hp:Z4 ps (Qe p)=none):Z4 (ps++[p]) key=some j:=by
 rw [Z4,Jj,if_neg]
 ·exact h
 ·intro e
  rw [e,h] at hp
  cases hp
theorem wj3:WJ P3:=by
 intro k q hk
 match k,hk with
 | 0,hk=>cases hk;exact ⟨[],[],rfl,rfl,fun p hp=>by simp at hp,rfl,fun i p hp=>by simp at hp,fun j hj=>by simp at hj,rfl⟩
 | 1,hk=>cases hk;exact ⟨[],[],rfl,rfl,fun p hp=>by simp at hp,rfl,fun i p hp=>by simp at hp,fun j hj=>by simp at hj,rfl⟩
 | 2,hk=>cases hk;exact ⟨[],[],rfl,rfl,fun p hp=>by simp at hp,rfl,fun i p hp=>by simp at hp,fun j hj=>by simp at hj,rfl⟩
 | (k+3),hk=>simp [P3] at hk
theorem WJ.define {ps:List Plc} (hW:WI ps) (h:WJ ps) (c:Cls) (hc:ClsW c):WJ (dfP ps (defN ps c)):=by
 cases hd:defN ps c with
 | error e=>exact h
 | ok p =>
   obtain ⟨h1,h2,h3,s,l,h4,h5,rfl⟩:=Zd8 hd
   show WJ (ps++[_])
   obtain ⟨_,q0,hq0,_,_⟩:=X4 h4
   obtain ⟨t,ht,htl,htn,h8⟩:=Zfp _ _ _ h5
   simp only [List.nil_append] at ht
   subst ht
   have hsl:=(List.getElem?_eq_some_iff.1 hq0).1
   intro k q hk
   by_cases hkl:k<ps.length
   ·rw [List.getElem?_append_left hkl] at hk
    obtain ⟨names,ks,e1,e2,e3,e4,e5,e6,e7⟩:=h k q hk
    have hsp:q.sp<ps.length:=by
     by_cases hz:k=0
     ·subst hz
      obtain ⟨n0,hn0,hn1,_⟩:=hW.wo.top
      rw [nd_at' hk] at hn0
      cases hn0
      rw [show q.sp=0 from hn1];have:=hW.lo;omega
     ·have:=(hW.wo.sp k (nd q) (by omega) (nd_at' hk)).1
      have:q.sp<k:=this
      omega
    refine ⟨names,ks,e1,e2,e3,e4,fun i p hi=>?_,e6,?_⟩
    ·obtain ⟨j,f1,f2⟩:=e5 i p hi
     exact ⟨j,f1,Xq f2 h3⟩
    ·rw [e7]
     refine Zdv (Qx ps _ hsp).symm (fun x hx=>(Qx ps _ ?_).symm)
     have:=e6 x hx
     omega
   ·have he:k=ps.length:=by
     have:=(List.getElem?_eq_some_iff.1 hk).1
     simp at this
     omega
    subst he
    rw [List.getElem?_append_right (Nat.le_refl _),Nat.sub_self] at hk
    simp at hk
    subst hk
    refine ⟨c.ifs,l,rfl,rfl,hc.2.2.1,htl,fun i p hi=>?_,htn,?_⟩
    ·obtain ⟨j,f1,f2⟩:=h8 i p hi
     exact ⟨j,f1,Xq (X4 f2).1 h3⟩
    ·exact Zdv (Qx ps _ hsl).symm (fun x hx=>(Qx ps _ (htn x hx)).symm)
theorem Zck (ps:List Plc) (k:Nat):(ps.map Plc.cl).getD k []=clO (ps.map nd) k:=by
 rw [← Ze0,List.map_map];rfl
end Go.Proofs.YtkoogmegdfpopaaGreat
