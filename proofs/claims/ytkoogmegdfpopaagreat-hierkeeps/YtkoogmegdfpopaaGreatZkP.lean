import Derived.Test.YtkoogmegdfpopaaGreatRfN
set_option maxRecDepth 100000
namespace Go.Proofs.YtkoogmegdfpopaaGreat
open Go.RowKit Go.Maps Go.Joins Go.Deep
def WtOk {H:Type} (P:Program) (t:TypeId) (d:DataW H):Prop:=∀ x∈d.weights P t,x≤reachBytes
theorem wtAll {H:Type} {P:Program} {e:TypeId}:∀ {l:List (DataW H)} {d:DataW H},d∈l→∀ x∈d.weights P e,x∈DataW.weightsAll P e l
 | [],_,h,_,_=>by cases h
 | a::r,d,h,x,hx=>by
   rw [DataW.weightsAll,List.mem_append]
   rcases List.mem_cons.1 h with rfl|h
   ·exact .inl hx
   ·exact .inr (wtAll h x hx)
theorem Zhb {H:Type} {P:Program}:∀ {ts:List TypeId} {l:List (DataW H)} {j:Nat} {t:TypeId} {d:DataW H},ts[j]?=some t→l[j]?=some d→∀ x∈d.weights P t,x∈DataW.weightsEach P ts l
 | [],_,_,_,_,h,_,_,_=>by simp at h
 | _::_,[],_,_,_,_,h,_,_=>by simp at h
 | t0::ts,a::r,0,t,d,h1,h2,x,hx=>by
   simp at h1 h2
   subst h1 h2
   rw [DataW.weightsEach,List.mem_append]
   exact .inl hx
 | t0::ts,a::r,j+1,t,d,h1,h2,x,hx=>by
   simp at h1 h2
   rw [DataW.weightsEach,List.mem_append]
   exact .inr (Zhb h1 h2 x hx)
theorem J4 {H:Type} {enc:TypeId×Value→H} {P:Program} {w:World} {base:Nat} {spare:Nat→Bool} {held:Bool} {t e:TypeId} {fuel n c:Nat} {ao:Option Addr} {x:DataW H×List MemPlace} (ht:P.underlying t=some (.slice e)) (h:DataW.trod enc P w base spare held fuel t [.slice ao n c]=some x) (hw:WtOk P t x.1) :
 n * P.bytesOf e≤reachBytes∧∀ a,ao=some a→∀ i,i<n→∃ cs' f y,w.cells? base (a.add (i * P.cellsOf e)) (P.cellsOf e)=some cs'∧DataW.trod enc P w base spare held f e cs'=some y∧WtOk P e y.1:=by
 rcases open_slice ht h with ⟨h1,rfl⟩|⟨a,len,cap,m,k,D,Pl,h1,hb,hl,hm,hmm,rfl,hel⟩
 ·simp at h1
  obtain ⟨rfl,rfl,rfl⟩:=h1
  exact ⟨by simp,fun a e=>by cases e⟩
 ·simp at h1
  obtain ⟨rfl,rfl,rfl⟩:=h1
  simp only [WtOk,DataW.weights,ht] at hw
  have h0:=hw _ (List.mem_cons_self ..)
  simp at h0
  have hnm:n≤m:=by split at hmm <;> omega
  refine ⟨Nat.le_trans (Nat.mul_le_mul_right _ (by omega)) h0,fun a' e' i hi=>?_⟩
  obtain rfl:=Option.some.inj e'
  obtain ⟨cs',q1,q2⟩:=hel i (by omega)
  refine ⟨cs',k,_,q1,q2,fun y hy=>hw y (List.mem_cons_of_mem _ (List.mem_append.2 (.inl (wtAll (d:=D i) (List.mem_map.2 ⟨i,List.mem_range.2 hi,rfl⟩) y hy))))⟩
theorem Zad {H:Type} {enc:TypeId×Value→H} {P:Program} {w:World} {base:Nat} {spare:Nat→Bool} {held:Bool} {t:TypeId} {fs:Array Field} {fuel:Nat} {cs:List Value} {x:DataW H×List MemPlace} (ht:P.underlying t=some (.struct fs)) (h:DataW.trod enc P w base spare held fuel t cs=some x) (hw:WtOk P t x.1) (j:Nat) (f:Field) (hj:fs[j]?=some f) :
 ∃ n y,DataW.trod enc P w base spare held n f.type ((cs.drop f.offset).take (P.cellsOf f.type))=some y∧WtOk P f.type y.1:=by
 obtain ⟨xs,n,_,rfl,hl,hlen,hf⟩:=DataW.trod_struct ht h
 obtain ⟨y,hy⟩:∃ y,xs[j]?=some y:=⟨_,List.getElem?_eq_getElem (by have:=(Array.getElem?_eq_some_iff.1 hj).1;omega)⟩
 refine ⟨n,y,?_,fun z hz=>hw z ?_⟩
 ·have:=hf j f hj
  rw [hy] at this
  exact this
 ·simp only [DataW.weights,ht]
  exact Zhb (j:=j) (t:=f.type) (d:=y.1) (by simp [hj]) (by simp [hy]) z hz
theorem add6 (b o i j:Nat):(Addr.add ⟨b,o,none⟩ i).add (j+1)=⟨b,o+i+(j+1),none⟩:=by
 unfold Addr.add
 by_cases h:i=0
 ·simp [h]
 ·simp [h]
theorem Zfa {cs:List Value} {v:Value} (hl:cs.length=6) (h5:cs[5]?=some v):(cs.drop 5).take 1=[v]:=by
 match cs,hl with
 | [c0,c1,c2,c3,c4,c5],_=>simp at h5;simp [h5]
theorem Zi7:Tryz.prog.bytesOf 9=16∧Tryz.prog.bytesOf 48=80∧Tryz.prog.bytesOf 56=88:=by
 refine ⟨?_,?_,?_⟩ <;> kernel_rfl
theorem Zi6:Tryz.prog.cellsOf 30=1∧Tryz.prog.cellsOf 31=1∧Tryz.prog.cellsOf 46=1:=by
 refine ⟨?_,?_,?_⟩ <;> kernel_rfl
theorem clss_y {H:Type} {enc:TypeId×Value→H} {W:World} {fuel:Nat} {v:Value} {x:DataW H×List MemPlace} {l:List Cls} (h:DataW.trod enc Tryz.prog W 0 (fun _=>true) true fuel 22 [v]=some x) (hw:WtOk Tryz.prog 22 x.1) (hi:Zef W v l):∀ c∈l,ClsY c:=by
 intro c hc
 obtain ⟨ao,cap,rfl,_,_,h3⟩:=hi
 obtain ⟨k,hk⟩:=List.mem_iff_getElem?.1 hc
 have hkl:=(List.getElem?_eq_some_iff.1 hk).1
 obtain ⟨bk,o,rfl,hbk,hcl⟩:=h3 (by rintro rfl;simp at hk)
 obtain ⟨vi,vm,hcell,hin⟩:=hcl k c hk
 obtain ⟨_,hel⟩:=J4 Tryz.underlying22 h hw
 obtain ⟨cs',f,y,q1,q2,q3⟩:=hel _ rfl k hkl
 rw [Tryz.cC] at q1
 obtain ⟨_,hlen,hcs⟩:=World.cells?_some q1
 have c2:cs'[2]?=some vi:=(hcs 2 (by omega)).symm.trans (by rw [add6];exact hcell 2 vi rfl)
 have c5:cs'[5]?=some vm:=(hcs 5 (by omega)).symm.trans (by rw [add6];exact hcell 5 vm rfl)
 have t2:(cs'.drop 2).take 1=[vi]:=by
  match cs',hlen with
  | [d0,d1,d2,d3,d4,d5],_=>simp at c2;simp [c2]
 obtain ⟨n2,y2,r2,w2⟩:=Zad Tryz.underlying33 q2 q3 2 _ rfl
 obtain ⟨n5,y5,r5,w5⟩:=Zad Tryz.underlying33 q2 q3 5 _ rfl
 replace r2:DataW.trod enc Tryz.prog W 0 (fun _=>true) true n2 30 ((cs'.drop 2).take (Tryz.prog.cellsOf 30))=some y2:=r2
 replace r5:DataW.trod enc Tryz.prog W 0 (fun _=>true) true n5 31 ((cs'.drop 5).take (Tryz.prog.cellsOf 31))=some y5:=r5
 rw [Zi6.1,t2] at r2
 rw [Zi6.2.1,Zfa hlen c5] at r5
 obtain ⟨ai,ci,rfl,_⟩:=hin.ifs
 obtain ⟨am,cm,evm,_,_,h6⟩:=hin.ms
 rw [evm] at r5
 have g1:=(J4 Tryz.underlying30 r2 w2).1
 obtain ⟨g2,hel2⟩:=J4 Tryz.underlying31 r5 w5
 rw [Zi7.1] at g1
 rw [Zi7.2.1] at g2
 have hR:reachBytes=140737488351232:=rfl
 rw [hR] at g1 g2
 refine ⟨by omega,by omega,fun m hm=>?_⟩
 obtain ⟨i,him⟩:=List.mem_iff_getElem?.1 hm
 have hil:=(List.getElem?_eq_some_iff.1 him).1
 obtain ⟨bk2,o2,rfl,_,hat⟩:=h6 (by intro e;rw [e] at him;simp at him)
 obtain ⟨_,_,_,_,_,u,hu,hins⟩:=hat i m him
 obtain ⟨ds',f',z,s1,s2,s3⟩:=hel2 _ rfl i hil
 rw [Tryz.cM] at s1
 obtain ⟨_,hlen2,hds⟩:=World.cells?_some s1
 have e5:ds'[5]?=some u:=(hds 5 (by omega)).symm.trans (by rw [add6];exact hu)
 obtain ⟨n6,y6,r6,w6⟩:=Zad Tryz.underlying48 s2 s3 5 _ rfl
 replace r6:DataW.trod enc Tryz.prog W 0 (fun _=>true) true n6 46 ((ds'.drop 5).take (Tryz.prog.cellsOf 46))=some y6:=r6
 rw [Zi6.2.2,Zfa hlen2 e5] at r6
 obtain ⟨ac,cc,rfl,_⟩:=hins
 have g3:=(J4 Tryz.underlying46 r6 w6).1
 rw [Zi7.2.2,hR] at g3
 omega
end Go.Proofs.YtkoogmegdfpopaaGreat
