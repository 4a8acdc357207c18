import Derived.Test.YtkoogmegdfpopaaGreatArgC
namespace Go.Proofs.YtkoogmegdfpopaaGreat
open Go.RowKit
def hmOf (m:Mth):HM:=⟨m.nm,m.ds,m.fl,m.lo,m.st,m.code.length,Yr m.code⟩
def Z0 (l:List (List UInt8)):List Value:=l.map fun p=>.string ⟨p.toArray⟩
def hcOf (c:Cls):HC:=⟨c.nm,c.su,c.ifs.length,Z0 c.ifs,c.fl,c.ld,c.ms.map hmOf⟩
theorem strs_rdw {w:World} {v:Value} {l:List (List UInt8)} (h:IsStrs w v l) (hs:Shp v):Rdw w v l.length 1 (Z0 l):=by
 obtain ⟨ao,cap,rfl,h1,h2,h3⟩:=h
 cases l with
 | nil =>
   rcases hs with e|⟨a,n,c,e⟩
   ·exact .inl ⟨rfl,.inl ⟨e,rfl⟩⟩
   ·injection e with e1;subst e1;exact .inr ⟨rfl,rfl,a,cap,rfl⟩
 | cons x l =>
   obtain ⟨bk,o,rfl,hlt,hc⟩:=h3 (by simp)
   refine .inl ⟨by simp [Z0],.inr ⟨bk,o,cap,rfl,h1,h2,hlt,fun j u hj=>?_⟩⟩
   rw [Z0,List.getElem?_map] at hj
   cases e:(x::l)[j]? with
   | none=>rw [e] at hj;cases hj
   | some p=>rw [e] at hj;cases hj;exact hc j p e
theorem inss_rdw {w:World} {v:Value} {l:List Ins} (h:IsInss w v l) (hs:Shp v):Rdw w v l.length 7 (Yr l):=by
 obtain ⟨ao,cap,rfl,h1,h2,h3⟩:=h
 cases hl:l with
 | nil =>
   subst hl
   rcases hs with e|⟨a,n,c,e⟩
   ·exact .inl ⟨rfl,.inl ⟨e,rfl⟩⟩
   ·injection e with e1;subst e1;exact .inr ⟨rfl,rfl,a,cap,rfl⟩
 | cons x r =>
   rw [← hl]
   obtain ⟨bk,o,rfl,hlt,hc⟩:=h3 (by rw [hl];simp)
   refine .inl ⟨Yk l,.inr ⟨bk,o,cap,rfl,h1,h2,hlt,fun j u hj=>?_⟩⟩
   have hjl:=(List.getElem?_eq_some_iff.1 hj).1
   rw [Yk] at hjl
   have hq:j / 7<l.length:=by omega
   obtain ⟨i,hi⟩:∃ i,l[j / 7]?=some i:=⟨_,List.getElem?_eq_getElem hq⟩
   have hk:=Zas l (j / 7) i hi (j % 7) (Nat.mod_lt _ (by decide))
   rw [show j / 7 * 7+j % 7=j by omega,hj] at hk
   obtain ⟨a0,a1,a2,a3,a4,a5,a6⟩:=hc (j / 7) i hi
   rw [show o+j=o+j / 7 * 7+j % 7 by omega]
   generalize j % 7=r at hk ⊢
   match r,hk with
   | 0,hk=>rw [hk];exact a0
   | 1,hk=>rw [hk];exact a1
   | 2,hk=>rw [hk];exact a2
   | 3,hk=>rw [hk];exact a3
   | 4,hk=>rw [hk];exact a4
   | 5,hk=>rw [hk];exact a5
   | 6,hk=>rw [hk];exact a6
   | (r+7),hk=>simp [insC] at hk
theorem Zfl {w:World} {bk:Nat} (hbk:bk<w.heap.size):∀ (l:List Mth) (o:Nat),(∀ k m,l[k]?=some m→MthAt w bk (o+k * 6) m∧∀ v,w.cell? ⟨bk,o+k * 6+5,none⟩=some v→Shp v) →
 ∃ pm:List (HM×Value),pm.map Prod.fst=l.map hmOf∧(∀ j u,(Zm pm)[j]?=some u→w.cell? ⟨bk,o+j,none⟩=some u)∧∀ p∈pm,Rdw w p.2 p.1.n 7 p.1.xs
 | [],_,_=>⟨[],rfl,fun j u h=>by simp [Zm] at h,fun p h=>by simp at h⟩
 | m::l,o,h=>by
   obtain ⟨⟨a0,a1,a2,a3,a4,v,a5,hI⟩,hs⟩:=h 0 m rfl
   simp only [Nat.zero_mul,Nat.add_zero] at a0 a1 a2 a3 a4 a5 hs
   obtain ⟨pm,h1,h2,h3⟩:=Zfl hbk l (o+6) (fun k m' hk=>by
    have:=h (k+1) m' (by rw [List.getElem?_cons_succ];exact hk)
    rw [show o+(k+1) * 6=o+6+k * 6 by omega] at this
    exact this)
   refine ⟨(hmOf m,v)::pm,by rw [List.map_cons,List.map_cons,h1],fun j u hj=>?_,fun p hp=>?_⟩
   ·have e:Zm ((hmOf m,v)::pm)=hmC (hmOf m,v)++Zm pm:=by simp [Zm]
    rw [e] at hj
    by_cases h6:j<6
    ·rw [List.getElem?_append_left (by simp [hmC];omega)] at hj
     match j,h6,hj with
     | 0,_,hj=>cases hj;exact a0
     | 1,_,hj=>cases hj;exact a1
     | 2,_,hj=>cases hj;exact a2
     | 3,_,hj=>cases hj;exact a3
     | 4,_,hj=>cases hj;exact a4
     | 5,_,hj=>cases hj;exact a5
    ·rw [List.getElem?_append_right (by simp [hmC];omega)] at hj
     have:=h2 _ u hj
     simp only [hmC,List.length_cons,List.length_nil] at this
     rw [show o+6+(j - (0+1+1+1+1+1+1))=o+j by omega] at this
     exact this
   ·rcases List.mem_cons.1 hp with rfl|hp
    ·exact inss_rdw hI (hs v a5)
    ·exact h3 p hp
theorem ClsIn.keep {W W':World} {vi vm:Value} {c:Cls} (h:ClsIn W vi vm c) (hb:Bw W W'):ClsIn W' vi vm c:=by
 refine ⟨h.ifs.keep hb,h.ms.keep hb,h.si,h.sm,fun bk o n cap e k hk v hv=>?_,h.ok⟩
 obtain ⟨ao,cap',e',_,_,h3⟩:=h.ms
 obtain ⟨bk',o',e2,hlt,_⟩:=h3 (fun hn=>by rw [hn] at hk;simp at hk)
 rw [e,e2] at e'
 injection e' with e3
 injection e3 with e3
 injection e3 with e4
 subst e4
 rw [hb.cell hlt] at hv
 exact h.sc bk o n cap e k hk v hv
theorem ClsIn.rdw {W:World} {vi vm:Value} {c:Cls} (h:ClsIn W vi vm c):Rdw W vi (hcOf c).ni 1 (hcOf c).xi∧∃ pm:List (HM×Value),pm.map Prod.fst=(hcOf c).ms∧Rdw W vm pm.length 6 (Zm pm)∧∀ p∈pm,Rdw W p.2 p.1.n 7 p.1.xs:=by
 refine ⟨strs_rdw h.ifs h.si,?_⟩
 obtain ⟨ao,cap,e,h1,h2,h3⟩:=h.ms
 cases hm:c.ms with
 | nil =>
   refine ⟨[],by simp [hcOf,hm],?_,fun p hp=>by simp at hp⟩
   rw [hm] at e
   rcases h.sm with e2|⟨a,n,k,e2⟩
   ·exact .inl ⟨rfl,.inl ⟨e2,rfl⟩⟩
   ·rw [e] at e2
    injection e2 with e3
    subst e3
    exact .inr ⟨rfl,rfl,a,cap,e⟩
 | cons x r =>
   obtain ⟨bk,o,rfl,hlt,hc⟩:=h3 (by rw [hm];simp)
   obtain ⟨pm,p1,p2,p3⟩:=Zfl hlt c.ms o (fun k m hk=>⟨hc k m hk,h.sc bk o _ _ e k (List.getElem?_eq_some_iff.1 hk).1⟩)
   have hl:pm.length=c.ms.length:=by
    have:=congrArg List.length p1
    simpa using this
   refine ⟨pm,p1,?_,p3⟩
   rw [hl]
   exact .inl ⟨by rw [Y2,hl],.inr ⟨bk,o,cap,e,h1,h2,hlt,p2⟩⟩
theorem J5 (l:List (List UInt8)):∀ u∈Z0 l,u.oneCell'=true:=fun u hu=>by
 obtain ⟨x,_,rfl⟩:=List.mem_map.1 hu;rfl
theorem Q0 (l:List Ins):∀ u∈Yr l,u.oneCell'=true:=fun u hu=>by
 obtain ⟨i,_,hi⟩:=List.mem_flatMap.1 hu
 simp only [insC,List.mem_cons,List.not_mem_nil,or_false] at hi
 rcases hi with rfl|rfl|rfl|rfl|rfl|rfl|rfl <;> rfl
end Go.Proofs.YtkoogmegdfpopaaGreat
