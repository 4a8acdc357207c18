import Derived.Test.YtkclpcmkplbclaaGreatWdT
import Derived.Test.YtkclpcmkplbclaaGreatArV
import Derived.Test.YtkclpcmkplbclaaGreatWdB
import Derived.Test.YtkclpcmkplbclaaGreatSoA
import Derived.Test.YtkclpcmkplbclaaGreatRfX
import Derived.Test.YtkclpcmkplbclaaGreatHrX
import Derived.BigQuiet
import Derived.Lib.SliceRun
import Derived.Shelf.RegionOpen
import Derived.Maps.AppendAt
set_option maxRecDepth 100000
namespace Go.Proofs.YtkclpcmkplbclaaGreat
open Go.RowKit Go.Maps
structure StW (ps:List Plc):Prop where
  ty:TyW ps
  wj:WJ ps
  su:∀ k q,0<k→ps[k]?=some q→lookL ps q.c.su.data.toList=some q.sp∧q.c.su.toList.isEmpty=false
  ni:∀ q∈ps,q.c.ni≤20
theorem valid_some {l:List UInt8} (h:validL l=true):l.isEmpty=false:=by
  cases l with
  | nil=>exact absurd h (by decide)
  | cons a r=>rfl
theorem cls_su {c:Cls} (h:clsB c=true):validL c.su.data.toList=true:=by
  unfold clsB at h
  simp only [Bool.and_eq_true] at h
  exact h.1.1.1.1.1.1.1.1.2
theorem stW (l:List Cls) (hl:∀ c∈l,ClsW c):StW (wld l):=by
  have h1:WI (wld l)∧WJ (wld l):=wld_ind (P:=fun ps=>WI ps∧WJ ps) ⟨wi3,wj3⟩ (fun ps c h hc=>⟨h.1.define c hc,h.2.define h.1 c hc⟩) l hl
  refine ⟨tyW l hl,h1.2,?_,?_⟩
  · refine wld_ind (P:=fun ps=>∀ k q,0<k→ps[k]?=some q→lookL ps q.c.su.data.toList=some q.sp∧q.c.su.toList.isEmpty=false) (fun k q h0 hk=>?_) (fun ps c h hc=>?_) l hl
    · match k,hk with
      | 1,hk=>simp [P3] at hk;subst hk;exact ⟨by decide,by rw [Lib.toList_data];decide⟩
      | 2,hk=>simp [P3] at hk;subst hk;exact ⟨by decide,by rw [Lib.toList_data];decide⟩
      | (k+3),hk=>simp [P3] at hk
    · cases hd:defN ps c with
      | error e=>exact h
      | ok p =>
        obtain ⟨h1,_,hn,s,ks,ha,_,rfl⟩:=def_ok hd
        intro k q h0 hk
        have hk2:(ps++[(⟨hcOf c,s,gathL (ps.map Plc.cl) s ks⟩:Plc)])[k]?=some q:=hk
        show lookL (ps++[_]) _=_∧_
        by_cases hlt:k<ps.length
        · rw [List.getElem?_append_left hlt] at hk2
          obtain ⟨h2,h3⟩:=h k q h0 hk2
          exact ⟨look_snoc h2 hn,h3⟩
        · rw [List.getElem?_append_right (by omega)] at hk2
          have he:k - ps.length=0:=by
            have:=(List.getElem?_eq_some_iff.1 hk2).1
            simp at this;omega
          rw [he] at hk2
          simp at hk2
          subst hk2
          exact ⟨look_snoc (above_ok ha).1 hn,by rw [Lib.toList_data];exact valid_some (cls_su h1)⟩
  · refine wld_ind (P:=fun ps=>∀ q∈ps,q.c.ni≤20) (fun q hq=>?_) (fun ps c h hc=>?_) l hl
    · simp only [P3,List.mem_cons,List.not_mem_nil,or_false] at hq
      rcases hq with rfl|rfl|rfl <;> decide
    · cases hd:defN ps c with
      | error e=>exact h
      | ok p =>
        obtain ⟨h1,_,hn,s,ks,ha,_,rfl⟩:=def_ok hd
        intro q hq
        rcases List.mem_append.1 hq with hq|hq
        · exact h q hq
        · simp only [List.mem_cons,List.not_mem_nil,or_false] at hq
          subst hq
          exact (cls_bound h1).1
def mkB (p:List UInt8):ByteArray:=⟨p.toArray⟩
theorem mkB_data (p:List UInt8):(mkB p).data.toList=p:=by simp [mkB]
theorem mkB_toList (p:List UInt8):(mkB p).toList=p:=by rw [Lib.toList_data,mkB_data]
theorem ld_name {ps:List Plc} (h:TyW ps) {x:Int} {p:List UInt8} {k:Nat} (hk:lookL ps p=some k) (h0:0≤x) (h1:x≤255):ldI ps x (mkB p)=0∧(mkB p).toList.isEmpty=false:=by
  obtain ⟨q,hq,hn⟩:=look_place hk
  have hv:=(h.nm k q hq).2
  rw [hn] at hv
  have he:(mkB p).toList.isEmpty=false:=by rw [mkB_toList];exact valid_some hv
  refine ⟨?_,he⟩
  unfold ldI
  rw [he,mkB_data,hk]
  have hs:sndB x p=true:=by unfold sndB;rw [hv,decide_eq_true h0,decide_eq_true h1];simp
  rw [hs];rfl
theorem look_abv {ps:List Plc} (h:TyW ps) {p:List UInt8} (hp:p∈abv3):∃ k,lookL ps p=some k:=by
  obtain ⟨l0,l1,l2⟩:=h.look3
  simp only [abv3,List.mem_cons,List.not_mem_nil,or_false] at hp
  rcases hp with rfl|rfl|rfl
  · exact ⟨_,l0⟩
  · exact ⟨_,l1⟩
  · exact ⟨_,l2⟩
def StepsOK (ps:List Plc) (x:Int) (s:ByteArray) (us:List (Int×List UInt8)):Prop :=
  (∀ u∈us,ldI ps u.1 (mkB u.2)=0∧subB ps x s u.1 (mkB u.2)=true∧¬ (x=u.1∧s=mkB u.2)) ∧
  ∀ (y:Int) (t:ByteArray),ldI ps y t=0→(subB ps x s y t=true↔(x=y∧s=t)∨∃ u∈us,subB ps u.1 (mkB u.2) y t=true)
theorem eqB {s t:ByteArray} (h:s.toList=t.toList):s=t:=by
  rw [Lib.toList_data,Lib.toList_data] at h
  obtain ⟨s⟩:=s
  obtain ⟨t⟩:=t
  simp only at h
  rw [Array.toList_inj.1 h]
theorem steps_of {ps:List Plc} (h:TyW ps) {x:Int} {s:ByteArray} {us:List (Int×List UInt8)} (hx:ldI ps x s=0) (h1:∀ u∈us,ldI ps u.1 (mkB u.2)=0∧subB ps x s u.1 (mkB u.2)=true∧¬ (x=u.1∧s=mkB u.2))
    (h2:∀ (y:Int) (t:ByteArray),ldI ps y t=0→subB ps x s y t=true→(x=y∧s=t)∨∃ u∈us,subB ps u.1 (mkB u.2) y t=true):StepsOK ps x s us:=by
  refine ⟨h1,fun y t hy=>⟨h2 y t hy,?_⟩⟩
  rintro (⟨rfl,rfl⟩|⟨u,hu,hs⟩)
  · exact sub_refl hx
  · obtain ⟨a,b,_⟩:=h1 u hu
    exact sub_trans h hx a hy b hs
theorem steps_int {ps:List Plc} (h:TyW ps) {x:Int} {s:ByteArray} (hx:ldI ps x s=0) (hn:intB x s=true):StepsOK ps x s []:=by
  refine steps_of h hx (fun u hu=>by simp at hu) (fun y t hy hs=>.inl ?_)
  unfold intB at hn
  simp only [Bool.and_eq_true,beq_iff_eq] at hn
  obtain ⟨rfl,he⟩:=hn
  obtain ⟨y0,_,_⟩:=ld_facts hy
  rcases (sub_iff hx hy).1 hs with ⟨_,b,c⟩|⟨_,c,_⟩|⟨a,_⟩
  · rw [List.isEmpty_iff] at he b
    exact ⟨c,eqB (by rw [he,b])⟩
  · omega
  · rw [he] at a;cases a
theorem steps_arr {ps:List Plc} (h:TyW ps) {x:Int} {s:ByteArray} (hx:ldI ps x s=0) (h0:0<x) (hc:s.toList.isEmpty=true∨s.toList=sObj):StepsOK ps x s (abv3.map fun p=>(x - 1,p)):=by
  obtain ⟨x0,x1,_⟩:=ld_facts hx
  have up:∀ p∈abv3,ldI ps (x - 1) (mkB p)=0∧(mkB p).toList.isEmpty=false:=fun p hp=>by
    obtain ⟨k,hk⟩:=look_abv h hp
    exact ld_name h hk (by omega) (by omega)
  refine steps_of h hx (fun u hu=>?_) (fun y t hy hs=>?_)
  · obtain ⟨p,hp,rfl⟩:=List.mem_map.1 hu
    refine ⟨(up p hp).1,(sub_iff hx (up p hp).1).2 (.inr (.inl ⟨(up p hp).2,by show x - 1<x;omega,by rw [mkB_data];exact hp⟩)),fun e=>?_⟩
    have:x=x - 1:=e.1
    omega
  · have go:y<x→t.data.toList∈abv3→t.toList.isEmpty=false→∃ u∈abv3.map (fun p=>(x - 1,p)),subB ps u.1 (mkB u.2) y t=true:=fun hyx ht hte=>by
      by_cases hy1:y=x - 1
      · refine ⟨(x - 1,t.data.toList),List.mem_map.2 ⟨_,ht,rfl⟩,?_⟩
        have e:mkB t.data.toList=t:=eqB (by rw [mkB_toList,Lib.toList_data])
        show subB ps (x - 1) (mkB t.data.toList) y t=true
        rw [e,hy1]
        rw [hy1] at hy
        exact sub_refl hy
      · refine ⟨(x - 1,sObj),List.mem_map.2 ⟨sObj,by simp [abv3],rfl⟩,(sub_iff (up sObj (by simp [abv3])).1 hy).2 (.inr (.inl ⟨hte,by show y<x - 1;omega,ht⟩))⟩
    rcases (sub_iff hx hy).1 hs with ⟨a,b,c⟩|⟨a,b,c⟩|⟨a,b,c,i,j,hi,hj,he⟩
    · rw [List.isEmpty_iff] at a b
      exact .inl ⟨c,eqB (by rw [a,b])⟩
    · exact .inr (go b c a)
    · rcases hc with hc|hc
      · rw [hc] at a;cases a
      · left
        rw [Lib.toList_data] at hc
        rw [hc,h.look3.1] at hi
        cases hi
        have:=h.ext0 he
        subst this
        refine ⟨c,eqB ?_⟩
        rw [Lib.toList_data,Lib.toList_data,hc]
        exact (h.inj hj h.look3.1).symm
theorem steps_cls {ps:List Plc} (h:StW ps) {x:Int} {s:ByteArray} (hx:ldI ps x s=0) (he:s.toList.isEmpty=false) {k:Nat} {q:Plc} (hk:lookL ps s.data.toList=some k) (hq:ps[k]?=some q) (h0:0<k) (ns:List (List UInt8)) (hns:q.c.xi=strsV ns):StepsOK ps x s ([(x,q.c.su.data.toList)]++ns.map fun p=>(x,p)):=by
  obtain ⟨x0,x1,_⟩:=ld_facts hx
  obtain ⟨hsu,hse⟩:=h.su k q h0 hq
  obtain ⟨names,ks,p1,p2,p3,p4,p5,p6,p7⟩:=h.wj k q hq
  obtain rfl:names=ns:=by
    have:=congrArg txtL (p1.symm.trans hns)
    rwa [txt_strs,txt_strs] at this
  have hwo:=h.ty.wi.wo
  have hkl:k<(ps.map nd).length:=by rw [List.length_map];exact (List.getElem?_eq_some_iff.1 hq).1
  have hsp:spO (ps.map nd) k=q.sp:=spO_at hq
  have hcl:clO (ps.map nd) k=q.cl:=clO_at hq
  have hspl:q.sp<k:=by rw [← hsp];exact hwo.spLt hkl h0
  have key:∀ (p:List UInt8) (j:Nat),lookL ps p=some j→extB (ps.map nd) k j=true→j≠k→ldI ps x (mkB p)=0∧subB ps x s x (mkB p)=true∧¬ (x=x∧s=mkB p):=fun p j hj hej hne=>by
    obtain ⟨a,b⟩:=ld_name h.ty hj x0 x1
    refine ⟨a,(sub_iff hx a).2 (.inr (.inr ⟨he,b,rfl,k,j,hk,by rw [mkB_data];exact hj,hej⟩)),fun e=>?_⟩
    rw [e.2,mkB_data,hj] at hk
    cases hk
    exact hne rfl
  have e1:extB (ps.map nd) k q.sp=true:=by
    refine (ext_iff _ _ _).2 (.inl ?_)
    rw [chL_cons hwo hkl h0,hsp]
    exact List.mem_cons_of_mem _ (chL_self _ _)
  have e2:∀ j∈ks,extB (ps.map nd) k j=true:=fun j hj=>by
    refine (ext_iff _ _ _).2 (.inr ?_)
    rw [hcl,p7,gathL_iff]
    exact .inr ⟨j,hj,.inl rfl⟩
  refine steps_of h.ty hx (fun u hu=>?_) (fun y t hy hs=>?_)
  · rcases List.mem_append.1 hu with hu|hu
    · simp only [List.mem_cons,List.not_mem_nil,or_false] at hu
      subst hu
      exact key _ q.sp hsu e1 (by omega)
    · obtain ⟨p,hp,rfl⟩:=List.mem_map.1 hu
      obtain ⟨i,hi⟩:=List.mem_iff_getElem?.1 hp
      obtain ⟨j,hj1,hj2⟩:=p5 i p hi
      have hjm:=List.mem_of_getElem? hj1
      exact key p j hj2 (e2 j hjm) (by have:=p6 j hjm;omega)
  · have su:=ld_name h.ty hsu x0 x1
    rcases (sub_iff hx hy).1 hs with ⟨a,_⟩|⟨a,b,c⟩|⟨a,b,c,i,j,hi,hj,hej⟩
    · rw [he] at a;cases a
    · exact .inr ⟨(x,q.c.su.data.toList),by simp,(sub_iff su.1 hy).2 (.inr (.inl ⟨a,b,c⟩))⟩
    · rw [hk] at hi
      cases hi
      subst c
      by_cases hjk:j=k
      · subst hjk
        left
        refine ⟨rfl,eqB ?_⟩
        rw [Lib.toList_data,Lib.toList_data]
        exact h.ty.inj hk hj
      · right
        have viaSup:extB (ps.map nd) q.sp j=true→∃ u∈([(x,q.c.su.data.toList)]++names.map fun p=>(x,p)),subB ps u.1 (mkB u.2) x t=true:=fun hx2 =>
          ⟨(x,q.c.su.data.toList),by simp,(sub_iff su.1 hy).2 (.inr (.inr ⟨su.2,b,rfl,q.sp,j,by rw [mkB_data];exact hsu,hj,hx2⟩))⟩
        have viaIf:∀ m∈ks,extB (ps.map nd) m j=true→∃ u∈([(x,q.c.su.data.toList)]++names.map fun p=>(x,p)),subB ps u.1 (mkB u.2) x t=true:=fun m hm hx2=>by
          obtain ⟨i,hi⟩:=List.mem_iff_getElem?.1 hm
          have hil:i<names.length:=by have:=(List.getElem?_eq_some_iff.1 hi).1;omega
          obtain ⟨m',hm1,hm2⟩:=p5 i _ (List.getElem?_eq_getElem hil)
          rw [hi] at hm1
          cases hm1
          have a2:=ld_name h.ty hm2 x0 x1
          exact ⟨(x,names[i]),List.mem_append_right _ (List.mem_map.2 ⟨_,List.getElem_mem hil,rfl⟩),(sub_iff a2.1 hy).2 (.inr (.inr ⟨a2.2,b,rfl,m,j,by rw [mkB_data];exact hm2,hj,hx2⟩))⟩
        rcases (ext_iff _ _ _).1 hej with hc|hc
        · rw [chL_cons hwo hkl h0,hsp] at hc
          rcases List.mem_cons.1 hc with e|hc
          · exact absurd e hjk
          · exact viaSup ((ext_iff _ _ _).2 (.inl hc))
        · rw [hcl,p7,gathL_iff] at hc
          rcases hc with hc|⟨m,hm,hc⟩
          · rw [getD_cl2] at hc
            exact viaSup ((ext_iff _ _ _).2 (.inr hc))
          · rcases hc with rfl|hc
            · exact viaIf j hm (ext_self _ _)
            · rw [getD_cl2] at hc
              exact viaIf m hm ((ext_iff _ _ _).2 (.inr hc))
theorem steps_top {ps:List Plc} (h:TyW ps) {s:ByteArray} (hx:ldI ps 0 s=0) (he:s.toList.isEmpty=false) (hk:lookL ps s.data.toList=some 0):StepsOK ps 0 s []:=by
  refine steps_of h hx (fun u hu=>by simp at hu) (fun y t hy hs=>.inl ?_)
  obtain ⟨y0,_,_⟩:=ld_facts hy
  rcases (sub_iff hx hy).1 hs with ⟨a,_⟩|⟨_,c,_⟩|⟨a,b,c,i,j,hi,hj,hej⟩
  · rw [he] at a;cases a
  · omega
  · rw [hk] at hi
    cases hi
    have:=h.ext0 hej
    subst this
    refine ⟨c,eqB ?_⟩
    rw [Lib.toList_data,Lib.toList_data]
    exact h.inj hk hj
theorem above_c {ps:List Plc} (hS:StW ps) (x:Int) (s:ByteArray) (hs:s.size≤maxLen) (hl:ldI ps x s=0):∃ us,StepsOK ps x s us∧us.length≤100∧∀ b W,WAt b ps W→Calls Tryz.prog 68 #[.pointer (some ⟨b,0,none⟩),.agg #[.int .i64 x,.string s]] W fun e w'=>(∃ v,e=.returned (.tuple #[v,.int .i64 0])∧w'.ownsRow W.heap.size 24 2 v us.length (flatU us))∧Below W.heap.size W w':=by
  obtain ⟨x0,x1,xk⟩:=ld_facts hl
  cases hn:intB x s with
  | true=>exact ⟨[],steps_int hS.ty hl hn,by simp,fun b W h=>above_int h x s hs hl hn⟩
  | false =>
    by_cases hc:0<x∧(s.toList.isEmpty=true∨s.toList=sObj)
    · exact ⟨_,steps_arr hS.ty hl hc.1 hc.2,by simp [abv3],fun b W h=>above_arr h x s hs hl hn hc.2 hc.1 x1⟩
    · have he:s.toList.isEmpty=false:=by
        cases he:s.toList.isEmpty with
        | false=>rfl
        | true =>
          exfalso
          by_cases hx:0<x
          · exact hc ⟨hx,.inl he⟩
          · have e0:x=0:=by omega
            rw [intB,he,e0] at hn
            exact absurd hn (by decide)
      have hc2:¬ (0<x∧s.toList=sObj):=fun h=>hc ⟨h.1,.inr h.2⟩
      obtain ⟨k,hk⟩:=xk he
      obtain ⟨q,hq,hnm⟩:=look_place hk
      have hqm:=List.mem_of_getElem? hq
      have hB:=hS.ty.wi.pb q hqm
      obtain ⟨names,ks,p1,p2,p3,p4,p5,p6,p7⟩:=hS.wj k q hq
      have hni:=hS.ni q hqm
      by_cases h0:0<k
      · have hsu:=(hS.su k q h0 hq).2
        refine ⟨_,steps_cls hS hl he hk hq h0 names p1,by simp;omega,fun b W h=>?_⟩
        have:=above_cls h x s hs hl hn he hc2 k q hk hq hB names p2 p1 (by omega) hsu
        refine this.mono ?_
        rintro e w' ⟨⟨v,h1,h2⟩,h3⟩
        exact ⟨⟨v,h1,by simpa [Nat.add_comm] using h2⟩,h3⟩
      · obtain rfl:k=0:=by omega
        have hq0:=hS.ty.first.1
        rw [hq] at hq0
        cases hq0
        have hob:s.toList=sObj:=by
          rw [Lib.toList_data];exact hS.ty.inj hk hS.ty.look3.1
        have hx0:¬ 0<x:=fun hx=>hc2 ⟨hx,hob⟩
        obtain rfl:x=0:=by omega
        have hnn:names=[]:=List.length_eq_zero_iff.1 p2.symm
        exact ⟨[],steps_top hS.ty hl he hk,by simp,fun b W h=>above_top h 0 s hs hl hn he hc2 0 _ hk hq hB names p2 p1 (by rw [hnn];decide) (by rw [Lib.toList_data];rfl) hnn hx0⟩
theorem ld_len {ps:List Plc} (hS:TyW ps) {d:Int} {p:List UInt8} (h:ldI ps d (mkB p)=0):p.length≤maxLen:=by
  cases he:(mkB p).toList.isEmpty with
  | true =>
    rw [mkB_toList,List.isEmpty_iff] at he
    rw [he];unfold maxLen;simp
  | false =>
    obtain ⟨k,hk⟩:=(ld_facts h).2.2 he
    rw [mkB_data] at hk
    obtain ⟨q,hq,hn⟩:=look_place hk
    have:=(hS.wi.pb q (List.mem_of_getElem? hq)).nm
    rw [← hn,nameL,Array.length_toList]
    exact this
theorem mkB_eq (s:ByteArray):mkB s.data.toList=s:=by
  obtain ⟨s⟩:=s
  simp [mkB]
theorem mkB_inj {p q:List UInt8} (h:mkB p=mkB q):p=q:=by
  have:=congrArg (fun b:ByteArray=>b.data.toList) h
  simpa [mkB] using this
def SB (ps:List Plc) (u v:Int×List UInt8):Bool:=subB ps u.1 (mkB u.2) v.1 (mkB v.2)
def LD (ps:List Plc) (u:Int×List UInt8):Prop:=ldI ps u.1 (mkB u.2)=0
structure Met (ps:List Plc) (X Y:Int×List UInt8) (M:List (Int×List UInt8)) (i:Nat):Prop where
  has:X∈M
  up:∀ u∈M,LD ps u∧SB ps X u=true
  done:∀ k u,k<i→M[k]?=some u→u≠Y∧∃ us,StepsOK ps u.1 (mkB u.2) us∧∀ v∈us,v∈M
theorem Met.start {ps:List Plc} {X:Int×List UInt8} (Y:Int×List UInt8) (hX:LD ps X):Met ps X Y [X] 0:=by
  refine ⟨by simp,fun u hu=>?_,fun k u hk=>absurd hk (Nat.not_lt_zero _)⟩
  rw [List.mem_singleton] at hu
  subst hu
  exact ⟨hX,sub_refl hX⟩
theorem Met.add {ps:List Plc} {X Y v:Int×List UInt8} {M:List (Int×List UInt8)} {i:Nat} (h:Met ps X Y M i) (hi:i≤M.length) (hv:LD ps v∧SB ps X v=true):Met ps X Y (M++[v]) i:=by
  refine ⟨List.mem_append_left _ h.has,fun u hu=>?_,fun k u hk hu=>?_⟩
  · rcases List.mem_append.1 hu with hu|hu
    · exact h.up u hu
    · rw [List.mem_singleton] at hu;subst hu;exact hv
  · rw [List.getElem?_append_left (by omega)] at hu
    obtain ⟨h1,us,h2,h3⟩:=h.done k u hk hu
    exact ⟨h1,us,h2,fun x hx=>List.mem_append_left _ (h3 x hx)⟩
theorem Met.next {ps:List Plc} {X Y u:Int×List UInt8} {M:List (Int×List UInt8)} {i:Nat} (h:Met ps X Y M i) (hu:M[i]?=some u) (hY:u≠Y) {us:List (Int×List UInt8)} (hs:StepsOK ps u.1 (mkB u.2) us) (hm:∀ v∈us,v∈M):Met ps X Y M (i+1):=by
  refine ⟨h.has,h.up,fun k w hk hw=>?_⟩
  by_cases e:k=i
  · subst e
    rw [hu] at hw
    cases hw
    exact ⟨hY,us,hs,hm⟩
  · exact h.done k w (by omega) hw
theorem Met.step {ps:List Plc} (hT:TyW ps) {X Y u v:Int×List UInt8} {M:List (Int×List UInt8)} {i:Nat} (h:Met ps X Y M i) (hX:LD ps X) (hu:u∈M) {us:List (Int×List UInt8)} (hs:StepsOK ps u.1 (mkB u.2) us) (hv:v∈us):LD ps v∧SB ps X v=true:=by
  obtain ⟨h1,h2,_⟩:=hs.1 v hv
  obtain ⟨h3,h4⟩:=h.up u hu
  exact ⟨h1,sub_trans hT hX h3 h1 h4 h2⟩
theorem Met.fin {ps:List Plc} (hT:TyW ps) {X Y:Int×List UInt8} {M:List (Int×List UInt8)} (h:Met ps X Y M M.length) (hY:LD ps Y):SB ps X Y=false:=by
  have key:∀ (n:Nat) (u:Int×List UInt8),u∈M→(M.filter fun v=>SB ps u v&&!decide (v=u)).length≤n→SB ps u Y=false:=by
    intro n
    induction n with
    | zero =>
      intro u hu hn
      obtain ⟨k,hk,hku⟩:=List.getElem_of_mem hu
      obtain ⟨h1,us,h2,h3⟩:=h.done k u hk (by rw [List.getElem?_eq_getElem hk,hku])
      rw [← Bool.not_eq_true]
      intro hs
      rcases (h2.2 Y.1 (mkB Y.2) hY).1 hs with ⟨e1,e2⟩|⟨v,hv,hvs⟩
      · exact h1 (Prod.ext e1 (mkB_inj e2))
      · obtain ⟨g1,g2,g3⟩:=h2.1 v hv
        have hm:v∈M.filter fun v=>SB ps u v&&!decide (v=u):=by
          rw [List.mem_filter]
          refine ⟨h3 v hv,?_⟩
          rw [Bool.and_eq_true,Bool.not_eq_true',decide_eq_false_iff_not]
          exact ⟨g2,fun e=>g3 (by rw [e];exact ⟨rfl,rfl⟩)⟩
        have:=List.length_pos_of_mem hm
        omega
    | succ n ih =>
      intro u hu hn
      obtain ⟨k,hk,hku⟩:=List.getElem_of_mem hu
      obtain ⟨h1,us,h2,h3⟩:=h.done k u hk (by rw [List.getElem?_eq_getElem hk,hku])
      rw [← Bool.not_eq_true]
      intro hs
      rcases (h2.2 Y.1 (mkB Y.2) hY).1 hs with ⟨e1,e2⟩|⟨v,hv,hvs⟩
      · exact h1 (Prod.ext e1 (mkB_inj e2))
      · obtain ⟨g1,g2,g3⟩:=h2.1 v hv
        have hvu:v≠u:=fun e=>g3 (by rw [e];exact ⟨rfl,rfl⟩)
        have hul:=(h.up u hu).1
        have hsub:∀ w∈M,(SB ps v w&&!decide (w=v))=true→(SB ps u w&&!decide (w=u))=true:=by
          intro w hw hh
          rw [Bool.and_eq_true,Bool.not_eq_true',decide_eq_false_iff_not] at hh ⊢
          have hwl:=(h.up w hw).1
          refine ⟨sub_trans hT hul g1 hwl g2 hh.1,fun e=>?_⟩
          subst e
          obtain ⟨e1,e2⟩:=sub_anti hT hul g1 g2 hh.1
          exact hvu (Prod.ext e1.symm (mkB_inj (eqB e2)).symm)
        have hlt:(M.filter fun w=>SB ps v w&&!decide (w=v)).length<(M.filter fun w=>SB ps u w&&!decide (w=u)).length:=by
          have hvM:=h3 v hv
          have e1:(M.filter fun w=>SB ps v w&&!decide (w=v))=((M.filter fun w=>SB ps u w&&!decide (w=u)).filter fun w=>SB ps v w&&!decide (w=v)):=by
            rw [List.filter_filter]
            refine List.filter_congr fun w hw=>?_
            cases e:(SB ps v w&&!decide (w=v)) with
            | false=>rfl
            | true=>rw [hsub w hw e];rfl
          rw [e1]
          refine Nat.lt_of_le_of_ne (List.length_filter_le _ _) fun e=>?_
          have hall:=List.length_filter_eq_length_iff.1 e
          have hvm:v∈M.filter fun w=>SB ps u w&&!decide (w=u):=by
            rw [List.mem_filter]
            refine ⟨hvM,?_⟩
            rw [Bool.and_eq_true,Bool.not_eq_true',decide_eq_false_iff_not]
            exact ⟨g2,hvu⟩
          have:=hall v hvm
          rw [Bool.and_eq_true,Bool.not_eq_true',decide_eq_false_iff_not] at this
          exact this.2 rfl
        have:=ih v (h3 v hv) (by omega)
        rw [SB] at this
        rw [this] at hvs
        cases hvs
  exact key _ X h.has (Nat.le_refl _)
def samU (u v:Int×List UInt8):Bool:=decide (u.1=v.1)&&decide (mkB u.2=mkB v.2)
theorem samU_iff (u v:Int×List UInt8):samU u v=true↔u=v:=by
  rw [samU,Bool.and_eq_true,decide_eq_true_eq,decide_eq_true_eq]
  exact ⟨fun h=>Prod.ext h.1 (mkB_inj h.2),fun h=>by rw [h];exact ⟨rfl,rfl⟩⟩
def frU (v:Int×List UInt8) (l:List (Int×List UInt8)):Bool:=l.all fun u=>!samU u v
theorem frU_snoc {v u:Int×List UInt8} {M:List (Int×List UInt8)} {k:Nat} (h:M[k]?=some u):frU v (M.take (k+1))=(frU v (M.take k)&&!samU u v):=by
  rw [frU,List.take_add_one,h,Option.toList_some,List.all_append];simp [frU]
theorem frU_no {v:Int×List UInt8} {M:List (Int×List UInt8)} (h:frU v M=false):v∈M:=by
  rw [frU,List.all_eq_false] at h
  obtain ⟨u,hu,h2⟩:=h
  rw [Bool.not_eq_true,Bool.not_eq_false'] at h2
  rw [← (samU_iff u v).1 h2];exact hu
theorem flatU_at2 (l:List (Int×List UInt8)) (k:Nat) (p:Int×List UInt8) (h:l[k]?=some p) (j:Nat) (hj:j<2):(flatU l)[k * 2+j]?=(tyU p)[j]?:=by
  induction l generalizing k with
  | nil=>simp at h
  | cons u ts ih =>
    have e:flatU (u::ts)=tyU u++flatU ts:=by simp [flatU]
    rw [e]
    cases k with
    | zero=>simp at h;subst h;rw [List.getElem?_append_left (by simp [tyU];omega)];simp
    | succ k =>
      simp at h
      rw [List.getElem?_append_right (by simp [tyU];omega)]
      have:=ih k h
      rw [← this]
      congr 1
      simp [tyU];omega
theorem flatU_len (l:List (Int×List UInt8)):(flatU l).length=l.length * 2:=by
  induction l with
  | nil=>rfl
  | cons u ts ih =>
    have e:flatU (u::ts)=tyU u++flatU ts:=by simp [flatU]
    rw [e,List.length_append,ih,List.length_cons]
    simp [tyU];omega
theorem rowU_at {w:World} {N g n cap:Nat} {l:List (Int×List UInt8)} (h:w.ownsRow N 24 2 (.slice (some ⟨g,0,none⟩) n cap) n (flatU l)) {k:Nat} {u:Int×List UInt8} (hu:l[k]?=some u):w.cell? ⟨g,k * 2,none⟩=some (.int .i64 u.1)∧w.cell? ⟨g,k * 2+1,none⟩=some (.string (mkB u.2))∧g<w.heap.size:=by
  have hl:l.length=n:=by have:=h.1;rw [flatU_len] at this;omega
  have hk:=(List.getElem?_eq_some_iff.1 hu).1
  have g0:w.cell? ⟨g,k * 2,none⟩=some (.int .i64 u.1):=(h.cellAt (k * 2+0) (by omega)).trans (flatU_at2 l k _ hu 0 (by omega))
  have g1:w.cell? ⟨g,k * 2+1,none⟩=some (.string (mkB u.2)):=(h.cellAt (k * 2+1) (by omega)).trans (flatU_at2 l k _ hu 1 (by omega))
  exact ⟨g0,g1,World.block_lt_of_cell? _ _ g0⟩
theorem ne_next {w:World} {Bu L H:Nat} {vu v v':Value} {xs:List Value} (hu:w.ownsRow Bu 24 2 vu L xs) (hne:vu.ownBlock=none∨vu.ownBlock≠v.ownBlock) (h5:v'.ownBlock=v.ownBlock∨v'.ownBlock=some H) (hH:w.heap.size≤H):vu.ownBlock=none∨vu.ownBlock≠v'.ownBlock:=by
  cases e:vu.ownBlock with
  | none=>exact .inl rfl
  | some k =>
    refine .inr fun e2=>?_
    rcases h5 with h5|h5
    · rcases hne with h6|h6
      · rw [h6] at e;cases e
      · exact h6 (by rw [e,e2,h5])
    · rw [h5] at e2
      have:=(hu.lt k e).2
      injection e2 with e2
      omega
theorem halloc2 (w:World) {n:Nat} (o:Obj) (hn:w.heap.size=n):(w.alloc o).heap[n]?=some o:=by subst hn;exact halloc1 w o
theorem hkeep {w:World} {n:Nat} {x o:Obj} (h:w.heap[n]?=some x):(w.alloc o).heap[n]?=some x:=by
  have hb:Below w.heap.size w (w.alloc o):=(Below.refl _ w).alloc (Nat.le_refl _) _
  exact (hb.block n (Array.getElem?_eq_some_iff.1 h).1).trans h
theorem rw2 {w:World} {n:Nat} {t:TypeId} {a0 a1:Value} (h:w.heap[n]?=some (.cells #[a0,a1] t (0,0))):w.cell? ⟨n,0,none⟩=some a0∧w.cell? ⟨n,1,none⟩=some a1∧(∀ k,w.frozen? ⟨n,k,none⟩=false)∧n<w.heap.size :=
  ⟨(cell_of_row w n 0 _ _ _ h).trans rfl,(cell_of_row w n 1 _ _ _ h).trans rfl,fun k=>frozen_of_row w n k _ _ h,(Array.getElem?_eq_some_iff.1 h).1⟩
theorem rw4 {w:World} {n:Nat} {t:TypeId} {a0 a1 a2 a3:Value} (h:w.heap[n]?=some (.cells #[a0,a1,a2,a3] t (0,0))):w.cell? ⟨n,0,none⟩=some a0∧w.cell? ⟨n,1,none⟩=some a1∧w.cell? ⟨n,2,none⟩=some a2∧w.cell? ⟨n,3,none⟩=some a3∧(∀ k,w.frozen? ⟨n,k,none⟩=false)∧n<w.heap.size :=
  ⟨(cell_of_row w n 0 _ _ _ h).trans rfl,(cell_of_row w n 1 _ _ _ h).trans rfl,(cell_of_row w n 2 _ _ _ h).trans rfl,(cell_of_row w n 3 _ _ _ h).trans rfl,fun k=>frozen_of_row w n k _ _ h,(Array.getElem?_eq_some_iff.1 h).1⟩
theorem kp2 {V w:World} {N n:Nat} {t:TypeId} {a0 a1:Value} (hb:Below N V w) (hn:n<N:=by first|omega|(simp;try omega)) (h:V.heap[n]?=some (.cells #[a0,a1] t (0,0)):=by first|exact Hid.out (by assumption)|exact hkeep (Hid.out (by assumption))|exact hkeep (hkeep (Hid.out (by assumption)))|exact halloc2 _ _ rfl|exact hkeep (halloc2 _ _ rfl)|exact hkeep (hkeep (halloc2 _ _ rfl))|exact halloc2 _ _ (by simp;done)):Hid (w.heap[n]?=some (.cells #[a0,a1] t (0,0)))∧w.cell? ⟨n,0,none⟩=some a0∧w.cell? ⟨n,1,none⟩=some a1∧(∀ k,w.frozen? ⟨n,k,none⟩=false)∧n<w.heap.size∧¬ n=w.heap.size:=by
  have h2:=(hb.block n hn).trans h
  obtain ⟨c0,c1,f,l⟩:=rw2 h2
  exact ⟨h2,c0,c1,f,l,by omega⟩
theorem kp4 {V w:World} {N n:Nat} {t:TypeId} {a0 a1 a2 a3:Value} (hb:Below N V w) (hn:n<N:=by first|omega|(simp;try omega)) (h:V.heap[n]?=some (.cells #[a0,a1,a2,a3] t (0,0)):=by first|exact Hid.out (by assumption)|exact hkeep (Hid.out (by assumption))|exact hkeep (hkeep (Hid.out (by assumption)))|exact halloc2 _ _ rfl|exact hkeep (halloc2 _ _ rfl)|exact hkeep (hkeep (halloc2 _ _ rfl))|exact halloc2 _ _ (by simp;done)):Hid (w.heap[n]?=some (.cells #[a0,a1,a2,a3] t (0,0)))∧w.cell? ⟨n,0,none⟩=some a0∧w.cell? ⟨n,1,none⟩=some a1∧w.cell? ⟨n,2,none⟩=some a2∧w.cell? ⟨n,3,none⟩=some a3∧(∀ k,w.frozen? ⟨n,k,none⟩=false)∧n<w.heap.size∧¬ n=w.heap.size:=by
  have h2:=(hb.block n hn).trans h
  obtain ⟨c0,c1,c2,c3,f,l⟩:=rw4 h2
  exact ⟨h2,c0,c1,c2,c3,f,l,by omega⟩
theorem Tryz.hinfoTy:(Tryz.prog.info? 24).map (fun i=>(i.zero,i.size,i.bytes))=some (some (.agg #[.int .i64 0,.string ⟨#[]⟩]),2,24):=by kernel_rfl
theorem rowU_new (w:World) (N:Nat) (hN:N≤w.heap.size) (x:Int) (p:List UInt8):(w.alloc (.cells #[.int .i64 x,.string (mkB p)] 24)).ownsRow N 24 2 (.slice (some ⟨w.heap.size,0,none⟩) 1 1) 1 (flatU [(x,p)]) :=
  ⟨rfl,.inr ⟨w.heap.size,1,#[.int .i64 x,.string (mkB p)],rfl,hN,halloc1 _ _,Nat.le_refl _,by unfold maxLen;omega,rfl,rfl⟩⟩
set_option maxHeartbeats 16000000 in
theorem clb_w (ps:List Plc) (W:World) (b:Nat) (x y:Int) (p r:List UInt8) (s t:ByteArray) (R:Bool) (HS:Hid (mkB p=s)) (HT:Hid (mkB r=t)) (HRR:Hid (SB ps (x,p) (y,r)=R)) (HTY:Hid (TyW ps)) (HLX:Hid (LD ps (x,p))) (HLY:Hid (LD ps (y,r)))
    (HSM:Hid (∀ (d1 d2:Int) (q1 q2:ByteArray) (w:World),Calls Tryz.prog 65 #[.agg #[.int .i64 d1,.string q1],.agg #[.int .i64 d2,.string q2]] w fun e w'=>e=.returned (.bool (decide (d1=d2)&&decide (q1=q2)))∧Below w.heap.size w w'))
    (HSB:Hid (∀ w,Below W.heap.size W w→Calls Tryz.prog 23 #[.pointer (some ⟨b,0,none⟩),.agg #[.int .i64 x,.string s],.agg #[.int .i64 y,.string t]] w fun e w'=>e=.returned (.tuple #[.bool R,.int .i64 0])∧Below w.heap.size w w'))
    (HAB:Hid (∀ (d:Int) (q:List UInt8),LD ps (d,q)→∃ us,StepsOK ps d (mkB q) us∧us.length≤100∧∀ w,Below W.heap.size W w→Calls Tryz.prog 68 #[.pointer (some ⟨b,0,none⟩),.agg #[.int .i64 d,.string (mkB q)]] w fun e w'=>(∃ v,e=.returned (.tuple #[v,.int .i64 0])∧w'.ownsRow w.heap.size 24 2 v us.length (flatU us))∧Below w.heap.size w w')) :
    Calls Tryz.prog 39 #[.pointer (some ⟨b,0,none⟩),.agg #[.int .i64 x,.string s],.agg #[.int .i64 y,.string t]] W fun e w'=>e=.returned (.bool R)∧Below W.heap.size W w':=by
  obtain ⟨i0,hi0,hz0,hz1,hz2⟩:=info_parts Tryz.hinfoTy
  go_enter Tryz.func39,Tryz.ntmps39
  go_wp2
  go_loopw [7,8] (fun mv iv wr=>∃ (i n:Nat) (M:List (Int×List UInt8)) (am:Option Addr) (cm:Nat),mv=.slice am n cm∧iv=.int .i64 i∧Hid (M.length=n)∧i≤n∧n≤160∧Hid (Met ps (x,p) (y,r) M i)∧Hid (wr.ownsRow (W.heap.size+2) 24 2 (.slice am n cm) n (flatU M))∧Hid (Below W.heap.size W wr)∧Hid (wr.heap[W.heap.size]?=some (.cells #[.int .i64 x,.string s] 24 (0,0)))∧Hid (wr.heap[W.heap.size+1]?=some (.cells #[.int .i64 y,.string t] 24 (0,0)))) (fun _ iv _=>160 - (intOf iv).toNat)
  case atStart=>exact ⟨0,1,[(x,p)],_,_,rfl,rfl,rfl,by omega,by omega,Met.start _ HLX.out,(by have:=rowU_new ((W.alloc (.cells #[.int .i64 x,.string s] 24)).alloc (.cells #[.int .i64 y,.string t] 24)) (W.heap.size+2) (by simp) x p;rw [HS.out] at this;rw [Hid];simpa using this),(by repeat (first|exact Below.refl _ _|refine Below.setCell ?_ (by simp;try omega) _|refine Below.alloc ?_ (by simp;try omega) _|refine Below.drew ?_)),hkeep (hkeep (halloc1 _ _)),hkeep (halloc2 _ _ (by simp))⟩
  case round =>
    obtain ⟨i,n,M,am,cm,rfl,rfl,HM,hin,hn,hMet,hO,hB,ssB,ttB⟩:=hrel
    obtain ⟨ss0,ss1,ssf,ssL⟩:=rw2 ssB.out
    obtain ⟨tt0,tt1,ttf,ttL⟩:=rw2 ttB.out
    by_cases hlt:i<n
    · have hiI:(i:Int)<(n:Int):=by omega
      obtain ⟨⟨d,q⟩,hu⟩:∃ u,M[i]?=some u:=⟨_,List.getElem?_eq_getElem (by rw [HM.out];exact hlt)⟩
      have HU:Hid (M[i]?=some (d,q)):=hu
      obtain ⟨g,cap,hf⟩:=Go.Joins.ownsRow_form hO.out (by omega)
      injection hf with hf1 _ hf2
      subst hf1 hf2
      obtain ⟨m0,m1,mL⟩:=rowU_at hO.out hu
      simp only at m0 m1
      have HUM:Hid ((d,q)∈M):=List.mem_of_getElem? hu
      obtain ⟨us,hus1,hus2,hus3⟩:=HAB.out d q (hMet.out.up _ HUM.out).1
      obtain ⟨qb,hqb⟩:∃ qb,mkB q=qb:=⟨_,rfl⟩
      have HQB:Hid (mkB q=qb):=hqb
      have HST:Hid (StepsOK ps d (mkB q) us):=hus1
      rw [hqb] at m1 hus3
      have HAU:Hid (∀ w,Below W.heap.size W w→Calls Tryz.prog 68 #[.pointer (some ⟨b,0,none⟩),.agg #[.int .i64 d,.string qb]] w fun e w'=>(∃ v,e=.returned (.tuple #[v,.int .i64 0])∧w'.ownsRow w.heap.size 24 2 v us.length (flatU us))∧Below w.heap.size w w'):=hus3
      obtain ⟨sb,hsb⟩:∃ sb,(decide (d=y)&&decide (qb=t))=sb:=⟨_,rfl⟩
      have HSBE:Hid (samU (d,q) (y,r)=sb):=by rw [Hid,samU,HQB.out,HT.out];exact hsb
      have HSC:Hid (∀ w:World,Calls Tryz.prog 65 #[.agg #[.int .i64 d,.string qb],.agg #[.int .i64 y,.string t]] w fun e w'=>e=.returned (.bool sb)∧Below w.heap.size w w'):=fun w=>by rw [← hsb];exact HSM.out d y qb t w
      clear hu hus1 hus3 hqb hsb
      go_upto_region 5 with fail
      obtain ⟨σ,V,hne,V1,V2⟩:=class_of' (fun w'=>Below wr.heap.size wr w') ⟨_,Below.refl _ _⟩
      have cV0:∀ s,(V s).cell? ⟨g,i * 2,none⟩=some (.int .i64 d):=fun s=>((V1.out s).cell (p:=⟨g,i * 2,none⟩) mL).trans m0
      have cV1:∀ s,(V s).cell? ⟨g,i * 2+1,none⟩=some (.string qb):=fun s=>((V1.out s).cell (p:=⟨g,i * 2+1,none⟩) mL).trans m1
      have cV2:∀ s,(V s).cell? ⟨W.heap.size+1,0,none⟩=some (.int .i64 y):=fun s=>((V1.out s).cell (p:=⟨W.heap.size+1,0,none⟩) ttL).trans tt0
      have cV3:∀ s,(V s).cell? ⟨W.heap.size+1,1,none⟩=some (.string t):=fun s=>((V1.out s).cell (p:=⟨W.heap.size+1,1,none⟩) ttL).trans tt1
      have HQ:Hid (∀ s,Calls Tryz.prog 65 #[.agg #[.int .i64 d,.string qb],.agg #[.int .i64 y,.string t]] (V s) fun e w''=>e=.returned (.bool sb)∧∃ s',w''=V s'):=fun s=>(HSC.out (V s)).mono fun e w'' zz=>⟨zz.1,V2.out _ (bstep (V1.out s) zz.2)⟩
      refine wp_region_class (C:=fun w'=>∃ s,w'=V s) (by kernel_rfl) (by kernel_rfl) (V2.out _ (Below.refl _ _).drew) ?_
      repeat (go_big_quiet_step (first|(go_at_call 65;exact HQ.out _)))
      refine wpQuiet_nil ?_
      intro w5 hw9
      obtain ⟨s9,hw9⟩:=hw9
      have hb:Below wr.heap.size wr w5:=by rw [hw9];exact V1.out s9
      clear hw9 cV0 cV1 cV2 cV3 HQ V1 V2 s9 hne V σ
      have ssd:=kp2 (n:=W.heap.size) hb (by omega) ssB.out
      have ttd:=kp2 (n:=W.heap.size+1) hb (by omega) ttB.out
      clear ssB ss0 ss1 ssf ssL ttB tt0 tt1 ttf ttL
      obtain ⟨ssB,ss0,ss1,ssf,ssL,ssN⟩:=ssd
      obtain ⟨ttB,tt0,tt1,ttf,ttL,ttN⟩:=ttd
      have O5:Hid (w5.ownsRow (W.heap.size+2) 24 2 (.slice (some ⟨g,0,none⟩) n cm) n (flatU M)):=rowBelow hO.out hb
      have n0:=(hb.cell (p:=⟨g,i * 2,none⟩) mL).trans m0
      have n1:=(hb.cell (p:=⟨g,i * 2+1,none⟩) mL).trans m1
      have nL:g<w5.heap.size:=Nat.lt_of_lt_of_le mL hb.size
      have B5:Hid (Below W.heap.size W w5):=bstep hB.out hb
      clear hb m0 m1 mL hO hB HSC
      cases sb
      · by_cases h60:60<n
        · have h61:(60:Int)<(n:Int):=by omega
          go_wp2_with (go_at_call 23;refine (HSB.out _ B5.out).mono ?_;rintro e w6 ⟨rfl,hb⟩;have B6:Hid (Below W.heap.size W w6):=bstep B5.out hb;clear hb HSB)
          exact bodyPost_ret (results_tmp rfl _ _ _) rfl ⟨rfl,B6.out⟩
        · have h61:¬ (60:Int)<(n:Int):=by omega
          obtain ⟨L,hL⟩:∃ L,us.length=L:=⟨_,rfl⟩
          have HL:Hid (us.length=L):=hL
          rw [hL] at hus2 HAU
          clear hL
          go_wp2_with (go_at_call 68;refine (HAU.out _ B5.out).mono ?_;rintro e w6 ⟨⟨vu,rfl,ho⟩,hb⟩;obtain ⟨au,cu,rfl⟩:=ownv ho;have U6:Hid (w6.ownsRow w5.heap.size 24 2 (.slice au L cu) L (flatU us)):=ho;have O6:Hid (w6.ownsRow (W.heap.size+2) 24 2 (.slice (some ⟨g,0,none⟩) n cm) n (flatU M)):=rowBelow O5.out hb;have B6:Hid (Below W.heap.size W w6):=bstep B5.out hb;have NE:Hid ((Value.slice au L cu).ownBlock=none∨(Value.slice au L cu).ownBlock≠(Value.slice (some ⟨g,0,none⟩) n cm).ownBlock):=(by cases hv:(Value.slice au L cu).ownBlock with|none=>exact .inl rfl|some k=>refine .inr fun e=>?_;have:=(ho.lt k hv).1;simp only [Value.ownBlock,Option.some.injEq] at e;omega);have ssd:=kp2 (n:=W.heap.size) hb (by omega) ssB.out;have ttd:=kp2 (n:=W.heap.size+1) hb (by omega) ttB.out;clear ssB ss0 ss1 ssf ssL ttB tt0 tt1 ttf ttL;obtain ⟨ssB,ss0,ss1,ssf,ssL,ssN⟩:=ssd;obtain ⟨ttB,tt0,tt1,ttf,ttL,ttN⟩:=ttd;clear hb ho HAU)
          clear O5 n0 n1 nL
          go_loopw [7,13] (fun mv jv w2=>∃ (j n2:Nat) (M2:List (Int×List UInt8)) (am:Option Addr) (cm2:Nat),mv=.slice am n2 cm2∧jv=.int .i64 j∧Hid (M2.length=n2)∧j≤L∧i<n2∧n2≤n+j∧Hid (Met ps (x,p) (y,r) M2 i)∧Hid (M2[i]?=some (d,q))∧Hid (∀ v∈us.take j,v∈M2)∧Hid (w2.ownsRow (W.heap.size+2) 24 2 (.slice am n2 cm2) n2 (flatU M2))∧Hid (w2.ownsRow w5.heap.size 24 2 (.slice au L cu) L (flatU us))∧Hid ((Value.slice au L cu).ownBlock=none∨(Value.slice au L cu).ownBlock≠(Value.slice am n2 cm2).ownBlock)∧Hid (Below W.heap.size W w2)∧Hid (w2.heap[W.heap.size]?=some (.cells #[.int .i64 x,.string s] 24 (0,0)))∧Hid (w2.heap[W.heap.size+1]?=some (.cells #[.int .i64 y,.string t] 24 (0,0)))) (fun _ jv _=>L - (intOf jv).toNat)
          case atStart=>exact ⟨0,n,M,_,_,rfl,rfl,HM,Nat.zero_le _,hlt,by omega,hMet,HU,(fun v hv=>by simp at hv),O6,U6,NE,B6,ssB,ttB⟩
          case round =>
            clear O6 U6 NE B6 ssB ss0 ss1 ssf ssL ssN ttB tt0 tt1 ttf ttL ttN
            obtain ⟨w2,rfl⟩:∃ w2,w2=wr:=⟨_,rfl⟩
            obtain ⟨j,n2,M2,am2,cm2,rfl,rfl,HM2,hjL,hin2,hn2,hMet2,HU2,hTk,hO,hU,hNE,hB,ssB,ttB⟩:=hrel
            by_cases hjl:j<L
            · have hjI:(j:Int)<(L:Int):=by omega
              obtain ⟨⟨dv,qv⟩,hv⟩:∃ v,us[j]?=some v:=⟨_,List.getElem?_eq_getElem (by rw [HL.out];exact hjl)⟩
              have HV:Hid (us[j]?=some (dv,qv)):=hv
              obtain ⟨gu,capu,hfu⟩:=Go.Joins.ownsRow_form hU.out (by omega)
              injection hfu with hfu1 _ hfu2
              subst hfu1 hfu2
              obtain ⟨v0,v1,vL⟩:=rowU_at hU.out hv
              simp only at v0 v1
              obtain ⟨vb,hvb⟩:∃ vb,mkB qv=vb:=⟨_,rfl⟩
              have HVB:Hid (mkB qv=vb):=hvb
              rw [hvb] at v1
              obtain ⟨gm,capm,hfm⟩:=Go.Joins.ownsRow_form hO.out (by omega)
              injection hfm with hfm1 _ hfm2
              subst hfm1 hfm2
              clear hv hvb
              go_wp2
              go_loopw [14,15] (fun fv kv w3=>∃ (k:Nat),kv=.int .i64 k∧k≤n2∧fv=.bool (frU (dv,qv) (M2.take k))∧Hid (Below w2.heap.size w2 w3)) (fun _ kv _=>n2 - (intOf kv).toNat)
              case atStart=>exact ⟨0,rfl,Nat.zero_le _,rfl,Below.refl _ _⟩
              case round =>
                obtain ⟨w3,rfl⟩:∃ w3,w3=wr:=⟨_,rfl⟩
                obtain ⟨k,rfl,hk,rfl,hB3⟩:=hrel
                by_cases hkn:k<n2
                · have hkI:(k:Int)<(n2:Int):=by omega
                  obtain ⟨⟨dm,qm⟩,hm⟩:∃ v,M2[k]?=some v:=⟨_,List.getElem?_eq_getElem (by rw [HM2.out];exact hkn)⟩
                  have HFR:Hid (frU (dv,qv) (M2.take (k+1))=(frU (dv,qv) (M2.take k)&&!samU (dm,qm) (dv,qv))):=frU_snoc hm
                  obtain ⟨k0,k1,kL⟩:=rowU_at hO.out hm
                  simp only at k0 k1
                  obtain ⟨mb,hmb⟩:∃ mb,mkB qm=mb:=⟨_,rfl⟩
                  rw [hmb] at k1
                  have x0:=(hB3.out.cell (p:=⟨gm,k * 2,none⟩) kL).trans k0
                  have x1:=(hB3.out.cell (p:=⟨gm,k * 2+1,none⟩) kL).trans k1
                  have xL:gm<w3.heap.size:=Nat.lt_of_lt_of_le kL hB3.out.size
                  have z0:=(hB3.out.cell (p:=⟨gu,j * 2,none⟩) vL).trans v0
                  have z1:=(hB3.out.cell (p:=⟨gu,j * 2+1,none⟩) vL).trans v1
                  have zL:gu<w3.heap.size:=Nat.lt_of_lt_of_le vL hB3.out.size
                  obtain ⟨sm,hsm⟩:∃ sm,(decide (dm=dv)&&decide (mb=vb))=sm:=⟨_,rfl⟩
                  have HSM1:Hid (samU (dm,qm) (dv,qv)=sm):=by rw [Hid,samU,hmb,HVB.out];exact hsm
                  have HSC:Hid (∀ w:World,Calls Tryz.prog 65 #[.agg #[.int .i64 dm,.string mb],.agg #[.int .i64 dv,.string vb]] w fun e w'=>e=.returned (.bool sm)∧Below w.heap.size w w'):=fun w=>by rw [← hsm];exact HSM.out dm dv mb vb w
                  rw [HSM1.out] at HFR
                  generalize frU (dv,qv) (M2.take k)=fr at *
                  clear hm hmb k0 k1 hsm HSM1
                  go_upto_region 18 with fail
                  cases fr
                  · obtain ⟨σ,V,hne,V1,V2⟩:=class_of' (fun w'=>Below w3.heap.size w3 w') ⟨_,Below.refl _ _⟩
                    have cV0:∀ s,(V s).cell? ⟨gm,k * 2,none⟩=some (.int .i64 dm):=fun s=>((V1.out s).cell (p:=⟨gm,k * 2,none⟩) xL).trans x0
                    have cV1:∀ s,(V s).cell? ⟨gm,k * 2+1,none⟩=some (.string mb):=fun s=>((V1.out s).cell (p:=⟨gm,k * 2+1,none⟩) xL).trans x1
                    have cV2:∀ s,(V s).cell? ⟨gu,j * 2,none⟩=some (.int .i64 dv):=fun s=>((V1.out s).cell (p:=⟨gu,j * 2,none⟩) zL).trans z0
                    have cV3:∀ s,(V s).cell? ⟨gu,j * 2+1,none⟩=some (.string vb):=fun s=>((V1.out s).cell (p:=⟨gu,j * 2+1,none⟩) zL).trans z1
                    have HQ:Hid (∀ s,Calls Tryz.prog 65 #[.agg #[.int .i64 dm,.string mb],.agg #[.int .i64 dv,.string vb]] (V s) fun e w''=>e=.returned (.bool sm)∧∃ s',w''=V s'):=fun s=>(HSC.out (V s)).mono fun e w'' zz=>⟨zz.1,V2.out _ (bstep (V1.out s) zz.2)⟩
                    refine wp_region_class (C:=fun w'=>∃ s,w'=V s) (by kernel_rfl) (by kernel_rfl) (V2.out _ (Below.refl _ _).drew) ?_
                    repeat (go_big_quiet_step (first|(go_at_call 65;exact HQ.out _)))
                    refine wpQuiet_nil ?_
                    intro w9 hw9
                    obtain ⟨s9,hw9⟩:=hw9
                    have hb:Below w3.heap.size w3 w9:=by rw [hw9];exact V1.out s9
                    clear hw9 cV0 cV1 cV2 cV3 HQ V1 V2 s9 hne V σ
                    have B9:Hid (Below w2.heap.size w2 w9):=bstep hB3.out hb
                    clear hb
                    go_wp2
                    exact ⟨⟨k+1,by simp,by omega,by rw [HFR.out];rfl,B9⟩,by simp [intOf];omega⟩
                  · obtain ⟨σ,V,hne,V1,V2⟩:=class_of' (fun w'=>Below w3.heap.size w3 w') ⟨_,Below.refl _ _⟩
                    have cV0:∀ s,(V s).cell? ⟨gm,k * 2,none⟩=some (.int .i64 dm):=fun s=>((V1.out s).cell (p:=⟨gm,k * 2,none⟩) xL).trans x0
                    have cV1:∀ s,(V s).cell? ⟨gm,k * 2+1,none⟩=some (.string mb):=fun s=>((V1.out s).cell (p:=⟨gm,k * 2+1,none⟩) xL).trans x1
                    have cV2:∀ s,(V s).cell? ⟨gu,j * 2,none⟩=some (.int .i64 dv):=fun s=>((V1.out s).cell (p:=⟨gu,j * 2,none⟩) zL).trans z0
                    have cV3:∀ s,(V s).cell? ⟨gu,j * 2+1,none⟩=some (.string vb):=fun s=>((V1.out s).cell (p:=⟨gu,j * 2+1,none⟩) zL).trans z1
                    have HQ:Hid (∀ s,Calls Tryz.prog 65 #[.agg #[.int .i64 dm,.string mb],.agg #[.int .i64 dv,.string vb]] (V s) fun e w''=>e=.returned (.bool sm)∧∃ s',w''=V s'):=fun s=>(HSC.out (V s)).mono fun e w'' zz=>⟨zz.1,V2.out _ (bstep (V1.out s) zz.2)⟩
                    refine wp_region_class (C:=fun w'=>∃ s,w'=V s) (by kernel_rfl) (by kernel_rfl) (V2.out _ (Below.refl _ _).drew) ?_
                    repeat (go_big_quiet_step (first|(go_at_call 65;exact HQ.out _)))
                    refine wpQuiet_nil ?_
                    intro w9 hw9
                    obtain ⟨s9,hw9⟩:=hw9
                    have hb:Below w3.heap.size w3 w9:=by rw [hw9];exact V1.out s9
                    clear hw9 cV0 cV1 cV2 cV3 HQ V1 V2 s9 hne V σ
                    have B9:Hid (Below w2.heap.size w2 w9):=bstep hB3.out hb
                    clear hb
                    cases sm
                    all_goals go_wp2
                    all_goals exact ⟨⟨k+1,by simp,by omega,by rw [HFR.out];rfl,B9⟩,by simp [intOf];omega⟩
                · have e:k=n2:=by omega
                  subst e
                  have HE:Hid (M2.take k=M2):=List.take_of_length_le (by rw [HM2.out];exact Nat.le_refl _)
                  rw [HE.out]
                  have FNO:Hid (frU (dv,qv) M2=false→(dv,qv)∈M2):=frU_no
                  have HN3:Hid (∀ v∈us.take (j+1),v=(dv,qv)∨v∈M2):=fun v hv=>by
                    rw [List.take_add_one,HV.out,Option.toList_some] at hv
                    rcases List.mem_append.1 hv with h|h
                    · exact .inr (hTk.out v h)
                    · exact .inl (List.mem_singleton.1 h)
                  have O3:Hid (w3.ownsRow (W.heap.size+2) 24 2 (.slice (some ⟨gm,0,none⟩) k cm2) k (flatU M2)):=rowBelow hO.out hB3.out
                  have U3:Hid (w3.ownsRow w5.heap.size 24 2 (.slice (some ⟨gu,0,none⟩) L cu) L (flatU us)):=rowBelow hU.out hB3.out
                  have BW3:Hid (Below W.heap.size W w3):=bstep hB.out hB3.out
                  have S3:Hid (w3.heap[W.heap.size]?=some (.cells #[.int .i64 x,.string s] 24 (0,0))):=(hB3.out.block _ (Array.getElem?_eq_some_iff.1 ssB.out).1).trans ssB.out
                  have T3:Hid (w3.heap[W.heap.size+1]?=some (.cells #[.int .i64 y,.string t] 24 (0,0))):=(hB3.out.block _ (Array.getElem?_eq_some_iff.1 ttB.out).1).trans ttB.out
                  have z0:=(hB3.out.cell (p:=⟨gu,j * 2,none⟩) vL).trans v0
                  have z1:=(hB3.out.cell (p:=⟨gu,j * 2+1,none⟩) vL).trans v1
                  have zL:gu<w3.heap.size:=Nat.lt_of_lt_of_le vL hB3.out.size
                  generalize frU (dv,qv) M2=fr at *
                  clear HE hTk hO hU hB hB3 ssB ttB
                  cases fr
                  · go_wp2
                    exact ⟨⟨j+1,k,M2,_,_,rfl,by simp,HM2,by omega,hin2,by omega,hMet2,HU2,(fun v hv=>by rcases HN3.out v hv with rfl|h;exact FNO.out rfl;exact h),O3,U3,hNE,BW3,S3,T3⟩,by simp [intOf];omega⟩
                  · have hWsz:=BW3.out.size
                    have hSl:=(Array.getElem?_eq_some_iff.1 T3.out).1
                    go_wp2_with (at_builtin;refine wpList_append_own_at _ rfl _ _ 66 rfl (W.heap.size+2) 24 i0 (.agg #[.int .i64 0,.string ⟨#[]⟩]) 2 24 Tryz.underlying66 hi0 hz0 hz1 hz2 rfl (by decide) (.slice (some ⟨gm,0,none⟩) k cm2) k (flatU M2) rfl (O3.out.alloc _) ⟨w3.heap.size,0,none⟩ 1 1 [.int .i64 dv,.string vb] rfl rfl ?c1 ?c2 ?c3 ?c4 ?c5 ?_)
                    case c1=>exact World.news_of_block (cs:=#[.int .i64 dv,.string vb]) (halloc1 _ _)
                    case c2=>intro u hu;simp at hu;rcases hu with rfl|rfl <;> rfl
                    case c3=>unfold maxLen;omega
                    case c4=>omega
                    case c5=>simp;omega
                    intro v' w4 hown hgrow _ h5
                    obtain ⟨a4,c4,rfl⟩:=ownv hown
                    have FL:Hid (flatU (M2++[(dv,qv)])=flatU M2++[.int .i64 dv,.string vb]):=by
                      rw [Hid,flatU_app]
                      have e:flatU [(dv,qv)]=[.int .i64 dv,.string (mkB qv)]:=rfl
                      rw [e,HVB.out]
                    have O4:Hid (w4.ownsRow (W.heap.size+2) 24 2 (.slice a4 (k+1) c4) (k+1) (flatU (M2++[(dv,qv)]))):=by rw [Hid,FL.out];exact hown
                    have hgM:W.heap.size+2≤gm:=(O3.out.lt gm rfl).1
                    have U4:Hid (w4.ownsRow w5.heap.size 24 2 (.slice (some ⟨gu,0,none⟩) L cu) L (flatU us)):=(U3.out.alloc _).kept hgrow hNE.out
                    have NE4:Hid ((Value.slice (some ⟨gu,0,none⟩) L cu).ownBlock=none∨(Value.slice (some ⟨gu,0,none⟩) L cu).ownBlock≠(Value.slice a4 (k+1) c4).ownBlock):=ne_next U3.out hNE.out h5 (by simp)
                    have B4:Hid (Below W.heap.size W w4):=by
                      refine (BW3.out.alloc BW3.out.size _).grown hgrow (by simp;omega) (fun z hz=>?_)
                      simp [Value.ownBlock] at hz
                      omega
                    have blk:∀ m,m<W.heap.size+2→w4.heap[m]?=w3.heap[m]?:=fun m hm=>(hgrow.block m (by simp;omega) (by simp [Value.ownBlock];omega)).trans (Below.heap_alloc _ _ _ (by omega))
                    have S4:Hid (w4.heap[W.heap.size]?=some (.cells #[.int .i64 x,.string s] 24 (0,0))):=(blk _ (by omega)).trans S3.out
                    have T4:Hid (w4.heap[W.heap.size+1]?=some (.cells #[.int .i64 y,.string t] 24 (0,0))):=(blk _ (by omega)).trans T3.out
                    have ME:Hid (Met ps (x,p) (y,r) (M2++[(dv,qv)]) i):=hMet2.out.add (by rw [HM2.out];omega) (hMet2.out.step HTY.out HLX.out (List.mem_of_getElem? HU2.out) HST.out (List.mem_of_getElem? HV.out))
                    have UE:Hid ((M2++[(dv,qv)])[i]?=some (d,q)):=by rw [Hid,List.getElem?_append_left (by rw [HM2.out];exact hin2)];exact HU2.out
                    have LE:Hid ((M2++[(dv,qv)]).length=k+1):=by rw [Hid,List.length_append,HM2.out];rfl
                    have TE:Hid (∀ v∈us.take (j+1),v∈M2++[(dv,qv)]):=fun v hv=>by
                      rcases HN3.out v hv with rfl|h
                      · simp
                      · exact List.mem_append_left _ h
                    clear hown hgrow h5 blk hMet2 HU2 HM2 HN3 FNO
                    go_wp2
                    exact ⟨⟨j+1,k+1,_,_,_,rfl,by simp,LE,by omega,by omega,by omega,ME,UE,TE,O4,U4,NE4,B4,S4,T4⟩,by simp [intOf];omega⟩
            · have e:j=L:=by omega
              subst e
              have HN:Hid (Met ps (x,p) (y,r) M2 (i+1)):=hMet2.out.next HU2.out (fun e=>by have h1:=(samU_iff _ _).2 e;rw [HSBE.out] at h1;cases h1) HST.out (fun v hv=>hTk.out v (by rw [List.take_of_length_le (by rw [HL.out];exact Nat.le_refl _)];exact hv))
              clear hMet2 HU2 hTk hU hNE
              go_wp2
              exact ⟨⟨i+1,n2,M2,_,_,rfl,by simp,HM2,by omega,by omega,HN,hO,hB,ssB,ttB⟩,by simp [intOf];omega⟩
      · have e:=(samU_iff _ _).1 HSBE.out
        have eR:R=true:=by rw [← HRR.out,← e];exact (hMet.out.up _ HUM.out).2
        subst eR
        go_wp2
        exact bodyPost_ret (results_tmp rfl _ _ _) rfl ⟨rfl,B5.out⟩
    · have e:i=n:=by omega
      subst e
      have eR:R=false:=by
        rw [← HRR.out]
        refine Met.fin (M:=M) HTY.out ?_ HLY.out
        rw [HM.out];exact hMet.out
      subst eR
      go_wp2
      exact bodyPost_ret (results_tmp rfl _ _ _) rfl ⟨rfl,hB.out⟩
theorem clb_c {b:Nat} {ps:List Plc} {W:World} (h:WAt b ps W) (hS:StW ps) (x:Int) (s:ByteArray) (y:Int) (t:ByteArray) (hs:s.size≤maxLen) (ht:t.size≤maxLen) (h1:ldI ps x s=0) (h2:ldI ps y t=0):Calls Tryz.prog 39 #[.pointer (some ⟨b,0,none⟩),.agg #[.int .i64 x,.string s],.agg #[.int .i64 y,.string t]] W fun e w'=>e=.returned (.bool (subB ps x s y t))∧Below W.heap.size W w':=by
  refine clb_w ps W b x y s.data.toList t.data.toList s t (subB ps x s y t) (mkB_eq s) (mkB_eq t) ?_ hS.ty ?_ ?_ (fun d1 d2 q1 q2 w=>tySame_any d1 d2 q1 q2 w) (fun w hb=>?_) (fun d q hd=>?_)
  · rw [Hid,SB,mkB_eq,mkB_eq]
  · show ldI ps x (mkB s.data.toList)=0
    rw [mkB_eq];exact h1
  · show ldI ps y (mkB t.data.toList)=0
    rw [mkB_eq];exact h2
  · refine (sub_c (h.below hb) hS.ty.wi x s y t hs ht).mono fun e w' zz=>⟨?_,zz.2⟩
    rw [zz.1,suI,if_pos h1,if_pos h2]
  · obtain ⟨us,u1,u2,u3⟩:=above_c hS d (mkB q) (by have:=ld_len hS.ty hd;simpa [mkB,ByteArray.size] using this) hd
    exact ⟨us,u1,u2,fun w hb=>u3 b w (h.below hb)⟩
def dpI (ps:List Plc) (x:Int):Int×Int:=match plcI ps x with
  | some _=>(((chL (ps.map nd) x.toNat).length:Int) - 1,0)
  | none=>(0,3)
def chR (ps:List Plc) (x:Int):List Nat×Int:=match plcI ps x with
  | some _=>(chL (ps.map nd) x.toNat,0)
  | none=>([],3)
def NumsA (r:List Nat×Int) (e:Ending) (w':World):Prop:=∃ a c,e=.returned (.tuple #[.slice a r.1.length c,.int .i64 r.2])∧Rds w' (.slice a r.1.length c) r.1.length 1 (r.1.map numV)
theorem NumsA.of {N:Nat} {l:List Nat} {E:Int} {v:Value} {w':World} (h:w'.ownsRow N 3 1 v l.length (l.map numV)):NumsA (l,E) (.returned (.tuple #[v,.int .i64 E])) w':=by
  obtain ⟨a,c,rfl⟩:=ownv h
  exact ⟨a,c,rfl,own_rds h⟩
theorem NumsA.nil (E:Int) (w':World):NumsA ([],E) (.returned (.tuple #[.slice none 0 0,.int .i64 E])) w':=NumsA.of (N:=0) (World.ownsRow_nil w' 0 _ _)
theorem chain_no6 {b:Nat} {ps:List Plc} {W:World} (h:WAt b ps W) (x:Int) (hx:plcI ps x=none):Calls Tryz.prog 25 #[.pointer (some ⟨b,0,none⟩),.int .i64 x] W fun e w'=>e=.returned (.tuple #[.slice none 0 0,.int .i64 3])∧Below W.heap.size W w':=by
  have HH:Hid (∀ w,Below W.heap.size W w→Calls Tryz.prog 74 #[.pointer (some ⟨b,0,none⟩),.int .i64 x] w fun e w'=>e=.returned (.bool false)∧w'=w):=fun w hb=>by
    have:=has_c (h.below hb) x
    rw [hx] at this
    exact this
  clear h hx
  go_enter Tryz.func25,Tryz.ntmps25
  go_wp2_with (go_at_call 74;refine (HH.out _ (by repeat (first|exact Below.refl _ _|refine Below.setCell ?_ (by simp;try omega) _|refine Below.alloc ?_ (by simp;try omega) _|refine Below.drew ?_))).mono ?_;rintro e w9 ⟨rfl,hw9⟩;rw [hw9];clear hw9 w9)
  exact bodyPost_ret (v:=.tuple #[.slice none 0 0,.int .i64 3]) (by simp [results,Tryz.results25,go_sem, *]) rfl ⟨rfl,(by repeat (first|exact Below.refl _ _|refine Below.setCell ?_ (by simp;try omega) _|refine Below.alloc ?_ (by simp;try omega) _|refine Below.drew ?_))⟩
theorem chain_r {b:Nat} {ps:List Plc} {W:World} (h:WAt b ps W) (hW:WI ps) (x:Int):Calls Tryz.prog 25 #[.pointer (some ⟨b,0,none⟩),.int .i64 x] W fun e w'=>NumsA (chR ps x) e w'∧Below W.heap.size W w':=by
  rcases plcI_cases ps x with ⟨hn,_⟩|⟨k,q,rfl,hk,hq⟩
  · refine (chain_no6 h x hn).mono fun e w' zz=>⟨?_,zz.2⟩
    rw [zz.1,chR,hn]
    exact NumsA.nil 3 w'
  · obtain ⟨N,mb,vp,pv,hw⟩:=h
    refine (chain_yes N b mb ps vp pv k (List.getElem?_eq_some_iff.1 hk).1 hW.wo hW.hi W hw).mono ?_
    rintro e w' ⟨v,rfl,ho,hb⟩
    rw [chR,hq]
    exact ⟨NumsA.of ho,hb⟩
theorem depth_r {b:Nat} {ps:List Plc} {W:World} (h:WAt b ps W) (hW:WI ps) (x:Int):Calls Tryz.prog 26 #[.pointer (some ⟨b,0,none⟩),.int .i64 x] W fun e w'=>e=.returned (.tuple #[.int .i64 (dpI ps x).1,.int .i64 (dpI ps x).2])∧Below W.heap.size W w':=by
  rcases plcI_cases ps x with ⟨hn,_⟩|⟨k,q,rfl,hk,hq⟩
  · have HH:Hid (∀ w,Below W.heap.size W w→Calls Tryz.prog 74 #[.pointer (some ⟨b,0,none⟩),.int .i64 x] w fun e w'=>e=.returned (.bool false)∧w'=w):=fun w hb=>by
      have:=has_c (h.below hb) x
      rw [hn] at this
      exact this
    have e0:dpI ps x=(0,3):=by rw [dpI,hn]
    rw [e0]
    clear h hn e0 hW
    go_enter Tryz.func26,Tryz.ntmps26
    go_wp2_with (go_at_call 74;refine (HH.out _ (by repeat (first|exact Below.refl _ _|refine Below.setCell ?_ (by simp;try omega) _|refine Below.alloc ?_ (by simp;try omega) _|refine Below.drew ?_))).mono ?_;rintro e w9 ⟨rfl,hw9⟩;rw [hw9];clear hw9 w9)
    exact bodyPost_ret (v:=.tuple #[.int .i64 0,.int .i64 3]) (by simp [results,Tryz.results26,go_sem, *]) rfl ⟨rfl,(by repeat (first|exact Below.refl _ _|refine Below.setCell ?_ (by simp;try omega) _|refine Below.alloc ?_ (by simp;try omega) _|refine Below.drew ?_))⟩
  · obtain ⟨N,mb,vp,pv,hw⟩:=h
    rw [dpI,hq]
    exact depth_yes N b mb ps vp pv k (List.getElem?_eq_some_iff.1 hk).1 hW.wo hW.hi W hw
end Go.Proofs.YtkclpcmkplbclaaGreat
