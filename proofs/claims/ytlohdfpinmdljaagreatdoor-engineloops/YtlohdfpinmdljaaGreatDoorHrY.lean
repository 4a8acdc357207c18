import Derived.Test.YtlohdfpinmdljaaGreatDoorHrT
import Derived.Test.YtlohdfpinmdljaaGreatDoorTyC
namespace Go.Proofs.YtlohdfpinmdljaaGreatDoor
open Go.RowKit
theorem nd_at' {ps:List Plc} {k:Nat} {q:Plc} (h:ps[k]?=some q):(ps.map nd)[k]?=some (nd q):=by rw [List.getElem?_map,h];rfl
structure WI (ps:List Plc):Prop where
  wo:WO (ps.map nd)
  pb:∀ q∈ps,PlcB q
  lo:3≤ps.length
  hi:ps.length≤300
theorem WI.nm {ps:List Plc} (h:WI ps):∀ q∈ps,q.c.nm.size≤maxLen:=fun q hq=>(h.pb q hq).nm
theorem wi3:WI P3:=by
  refine ⟨⟨⟨nd ⟨objH,0,[]⟩,rfl,rfl,rfl,by decide⟩,?_,?_⟩,?_,by decide,by decide⟩
  · intro k n h0 hk
    match k,hk with
    | 1,hk=>simp [P3] at hk;subst hk;exact ⟨Nat.zero_lt_one,fun p hp=>by simp [nd,P3] at hp;subst hp;exact ⟨by decide,fun i hi=>by simp at hi⟩,fun _=>rfl⟩
    | 2,hk=>simp [P3] at hk;subst hk;exact ⟨by show 0<2;decide,fun p hp=>by simp [nd,P3] at hp;subst hp;exact ⟨by decide,fun i hi=>by simp at hi⟩,fun _=>rfl⟩
    | (k+3),hk=>simp [P3] at hk
  · intro k n hk
    have hm:n∈P3.map nd:=List.mem_of_getElem? hk
    simp [P3] at hm
    rcases hm with rfl|rfl|rfl <;> exact ⟨by simp [nd],fun i hi=>by simp [nd] at hi⟩
  · intro q hq
    simp only [P3,List.mem_cons,List.not_mem_nil,or_false] at hq
    rcases hq with rfl|rfl|rfl
    · exact ⟨by decide,by decide,by decide,by decide,by decide⟩
    · exact ⟨by decide,by decide,by decide,by decide,by decide⟩
    · exact ⟨by decide,by decide,by decide,by decide,by decide⟩
theorem def_ok {ps:List Plc} {c:Cls} {p:Plc} (h:defN ps c=.ok p):clsB c=true∧ps.length<300∧lookL ps c.nm.data.toList=none∧∃ s l,aboveN ps c.nm c.ld (fitS c.fl) c.su.data.toList=.ok s∧ifsN ps c.nm c.ld [] c.ifs=.ok l∧p=⟨hcOf c,s,gathL (ps.map Plc.cl) s l⟩:=by
  unfold defN at h
  by_cases h1:clsB c=true
  · rw [if_pos h1] at h
    by_cases h2:300≤ps.length
    · rw [if_pos h2] at h;cases h
    · rw [if_neg h2] at h
      cases h3:lookL ps c.nm.data.toList with
      | some k=>rw [h3] at h;cases h
      | none =>
        rw [h3] at h
        simp only at h
        cases h4:aboveN ps c.nm c.ld (fitS c.fl) c.su.data.toList with
        | error e=>rw [h4] at h;cases h
        | ok s =>
          rw [h4] at h
          simp only at h
          cases h5:ifsN ps c.nm c.ld [] c.ifs with
          | error e=>rw [h5] at h;cases h
          | ok l =>
            rw [h5] at h
            simp only at h
            cases h
            exact ⟨h1,by omega,rfl,s,l,rfl,rfl,rfl⟩
  · rw [if_neg h1] at h;cases h
theorem WI.define {ps:List Plc} (h:WI ps) (c:Cls) (hc:ClsW c):WI (dfP ps (defN ps c)):=by
  cases hd:defN ps c with
  | error e=>exact h
  | ok p =>
    obtain ⟨h1,h2,_,s,l,h4,h5,rfl⟩:=def_ok hd
    obtain ⟨b1,b2,b3⟩:=cls_bound h1
    show WI (ps++[_])
    refine ⟨?_,fun q hq=>?_,by simp;have:=h.lo;omega,by simp;omega⟩
    · obtain ⟨_,q,hq,hf,_⟩:=above_ok h4
      obtain ⟨t,ht,_,_,h8⟩:=ifs_ok _ _ _ h5
      simp only [List.nil_append] at ht
      subst ht
      simp only [fitS,Bool.and_eq_true,Bool.not_eq_true',Bool.or_eq_true,decide_eq_true_eq] at hf
      have hmap:(ps.map nd).map Nd.cl=ps.map Plc.cl:=by rw [List.map_map];rfl
      have:=h.wo.snoc (ifB c.fl) s l ⟨nd q,nd_at' hq,hf.1⟩ (fun hi=>hf.2.resolve_right (fun h0=>by rw [hi] at h0;cases h0)) (fun x hx=>?_)
      · rw [hmap] at this
        rw [List.map_append]
        exact this
      · obtain ⟨i,hi⟩:=List.mem_iff_getElem?.1 hx
        have hil:i<c.ifs.length:=by
          have:=(List.getElem?_eq_some_iff.1 hi).1
          omega
        obtain ⟨k,hk,ha⟩:=h8 i _ (List.getElem?_eq_getElem hil)
        rw [hi] at hk
        cases hk
        obtain ⟨_,q2,hq2,hf2,_⟩:=above_ok ha
        exact ⟨nd q2,nd_at' hq2,hf2⟩
    · rcases List.mem_append.1 hq with hq|hq
      · exact h.pb q hq
      · simp only [List.mem_cons,List.not_mem_nil,or_false] at hq
        subst hq
        refine ⟨show c.ifs.length≤1000000 by omega,strs_one _,show (c.ms.map hmOf).length≤1000000 by rw [List.length_map];omega,fun m hm=>?_,hc.1⟩
        obtain ⟨m0,hm0,rfl⟩:=List.mem_map.1 hm
        exact ⟨flatI_one _,show m0.code.length≤1000000 by have:=b3 m0 hm0;omega⟩
end Go.Proofs.YtlohdfpinmdljaaGreatDoor
