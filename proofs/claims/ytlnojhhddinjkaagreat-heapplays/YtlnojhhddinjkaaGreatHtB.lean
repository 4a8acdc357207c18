import Derived.Test.YtlnojhhddinjkaaGreatHtA
set_option maxRecDepth 100000
namespace Go.Proofs.YtlnojhhddinjkaaGreat
open Go.RowKit Go.Maps Go.Joins Go.Deep
def WtOk {H:Type} (P:Program) (t:TypeId) (d:DataW H):Prop:=∀ x∈d.weights P t,x≤reachBytes
theorem wtAll {H:Type} {P:Program} {e:TypeId}:∀ {l:List (DataW H)} {d:DataW H},d∈l→∀ x∈d.weights P e,x∈DataW.weightsAll P e l
 | [],_,h,_,_=>by cases h
 | a::r,d,h,x,hx=>by
   rw [DataW.weightsAll,List.mem_append]
   rcases List.mem_cons.1 h with rfl|h
   ·exact .inl hx
   ·exact .inr (wtAll h x hx)
theorem Zi2 {H:Type} {P:Program}:∀ {ts:List TypeId} {l:List (DataW H)} {j:Nat} {t:TypeId} {d:DataW H},ts[j]?=some t→l[j]?=some d→∀ x∈d.weights P t,x∈DataW.weightsEach P ts l
 | [],_,_,_,_,h,_,_,_=>by simp at h
 | _::_,[],_,_,_,_,h,_,_=>by simp at h
 | t0::ts,a::r,0,t,d,h1,h2,x,hx=>by
   simp at h1 h2
   subst h1 h2
   rw [DataW.weightsEach,List.mem_append]
   exact .inl hx
 | t0::ts,a::r,j+1,t,d,h1,h2,x,hx=>by
   simp at h1 h2
   rw [DataW.weightsEach,List.mem_append]
   exact .inr (Zi2 h1 h2 x hx)
theorem Zgn {H:Type} {enc:TypeId×Value→H} {P:Program} {w:World} {base:Nat} {spare:Nat→Bool} {held:Bool} {t e:TypeId} {fuel n c:Nat} {ao:Option Addr} {x:DataW H×List MemPlace} (ht:P.underlying t=some (.slice e)) (h:DataW.trod enc P w base spare held fuel t [.slice ao n c]=some x) (hw:WtOk P t x.1) :
 n * P.bytesOf e≤reachBytes∧∀ a,ao=some a→∀ i,i<n→∃ cs' f y,w.cells? base (a.add (i * P.cellsOf e)) (P.cellsOf e)=some cs'∧DataW.trod enc P w base spare held f e cs'=some y∧WtOk P e y.1:=by
 rcases open_slice ht h with ⟨h1,rfl⟩|⟨a,len,cap,m,k,D,Pl,h1,hb,hl,hm,hmm,rfl,hel⟩
 ·simp at h1
  obtain ⟨rfl,rfl,rfl⟩:=h1
  exact ⟨by simp,fun a e=>by cases e⟩
 ·simp at h1
  obtain ⟨rfl,rfl,rfl⟩:=h1
  simp only [WtOk,DataW.weights,ht] at hw
  have h0:=hw _ (List.mem_cons_self ..)
  simp at h0
  have hnm:n≤m:=by split at hmm <;> omega
  refine ⟨Nat.le_trans (Nat.mul_le_mul_right _ (by omega)) h0,fun a' e' i hi=>?_⟩
  obtain rfl:=Option.some.inj e'
  obtain ⟨cs',q1,q2⟩:=hel i (by omega)
  refine ⟨cs',k,_,q1,q2,fun y hy=>hw y (List.mem_cons_of_mem _ (List.mem_append.2 (.inl (wtAll (d:=D i) (List.mem_map.2 ⟨i,List.mem_range.2 hi,rfl⟩) y hy))))⟩
theorem Zi1 {H:Type} {enc:TypeId×Value→H} {P:Program} {w:World} {base:Nat} {spare:Nat→Bool} {held:Bool} {t:TypeId} {fs:Array Field} {fuel:Nat} {cs:List Value} {x:DataW H×List MemPlace} (ht:P.underlying t=some (.struct fs)) (h:DataW.trod enc P w base spare held fuel t cs=some x) (hw:WtOk P t x.1) (j:Nat) (f:Field) (hj:fs[j]?=some f) :
 ∃ n y,DataW.trod enc P w base spare held n f.type ((cs.drop f.offset).take (P.cellsOf f.type))=some y∧WtOk P f.type y.1:=by
 obtain ⟨xs,n,_,rfl,hl,hlen,hf⟩:=DataW.trod_struct ht h
 obtain ⟨y,hy⟩:∃ y,xs[j]?=some y:=⟨_,List.getElem?_eq_getElem (by have:=(Array.getElem?_eq_some_iff.1 hj).1;omega)⟩
 refine ⟨n,y,?_,fun z hz=>hw z ?_⟩
 ·have:=hf j f hj
  rw [hy] at this
  exact this
 ·simp only [DataW.weights,ht]
  exact Zi2 (j:=j) (t:=f.type) (d:=y.1) (by simp [hj]) (by simp [hy]) z hz
theorem Zit {cs:List Value} {v:Value} (hl:cs.length=8) (h:cs[7]?=some v):(cs.drop 7).take 1=[v]:=by
 match cs,hl with
 | [c0,c1,c2,c3,c4,c5,c6,c7],_=>simp at h;simp [h]
theorem Zk5:Tryz.prog.bytesOf 3=8:=by kernel_rfl
theorem opsH_z {H:Type} {enc:TypeId×Value→H} {W:World} {fuel:Nat} {v:Value} {x:DataW H×List MemPlace} {ts:List OpH} (h:DataW.trod enc Tryz.prog W 0 (fun _=>true) true fuel 23 [v]=some x) (hw:WtOk Tryz.prog 23 x.1) (hi:Zhw W v ts):Zgl W v ts:=by
 refine ⟨hi,fun t ht=>?_⟩
 obtain ⟨ao,cap,rfl,_,hin,h3⟩:=hi
 obtain ⟨k,hk⟩:=List.mem_iff_getElem?.1 ht
 have hkl:=(List.getElem?_eq_some_iff.1 hk).1
 obtain ⟨bk,o,rfl,hbk,hcl⟩:=h3 (by rintro rfl;simp at hk)
 obtain ⟨_,_,_,_,_,_,_,c7⟩:=hcl k t hk
 obtain ⟨_,hel⟩:=Zgn Tryz.underlying23 h hw
 obtain ⟨cs',f,y,q1,q2,q3⟩:=hel _ rfl k hkl
 rw [Tryz.cellsOp8] at q1
 obtain ⟨_,hlen,hcs⟩:=World.cells?_some q1
 have e7:cs'[7]?=some t.lv:=(hcs 7 (by omega)).symm.trans (by rw [addp,addp];exact c7)
 obtain ⟨n5,y5,r5,w5⟩:=Zi1 Tryz.underlying43 q2 q3 5 _ rfl
 replace r5:DataW.trod enc Tryz.prog W 0 (fun _=>true) true n5 41 ((cs'.drop 7).take (Tryz.prog.cellsOf 41))=some y5:=r5
 rw [Tryz.cellsSlH,Zit hlen e7] at r5
 obtain ⟨ai,ci,e,_⟩:=(hin t ht).2
 rw [e] at r5
 have g:=(Zgn Tryz.underlying41 r5 w5).1
 have hR:reachBytes=140737488351232:=rfl
 rw [Zk5,hR] at g
 omega
end Go.Proofs.YtlnojhhddinjkaaGreat
