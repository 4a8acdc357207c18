import Derived.Test.YtkoogmegdfpopaaGreatCodeL
set_option maxRecDepth 100000
namespace Go.Proofs.YtkoogmegdfpopaaGreat
open Go.ChangeShapes Go.WideShapes Go.ChangeAt Go.RowKit Go.Joins Go.Deep
theorem Tryz.c23:Tryz.prog.cellsOf 54=4:=by kernel_rfl
theorem Tryz.c25:Tryz.prog.cellsOf 56=7:=by kernel_rfl
theorem Tryz.c40:Tryz.prog.cellsOf 46=1:=by kernel_rfl
theorem Tryz.c9:Tryz.prog.cellsOf 9=1:=by kernel_rfl
theorem Tryz.c4:Tryz.prog.cellsOf 4=1:=by kernel_rfl
theorem Tryz.c3:Tryz.prog.cellsOf 3=1:=by kernel_rfl
theorem trod_struct4 {H:Type} {enc:TypeId×Value→H} {P:Program} {w:World} {base:Nat} {spare:Nat→Bool} {held:Bool} {t:TypeId} {f0 f1 f2 f3:Field} {fuel:Nat} {cs:List Value} {x:DataW H×List MemPlace} (ht:P.underlying t=some (.struct #[f0,f1,f2,f3])) (h:DataW.trod enc P w base spare held fuel t cs=some x) :
 ∃ y0 y1 y2 y3 n,cs.length=P.cellsOf t∧DataW.trod enc P w base spare held n f0.type ((cs.drop f0.offset).take (P.cellsOf f0.type))=some y0 ∧
   DataW.trod enc P w base spare held n f1.type ((cs.drop f1.offset).take (P.cellsOf f1.type))=some y1∧DataW.trod enc P w base spare held n f2.type ((cs.drop f2.offset).take (P.cellsOf f2.type))=some y2 ∧
   DataW.trod enc P w base spare held n f3.type ((cs.drop f3.offset).take (P.cellsOf f3.type))=some y3:=by
 obtain ⟨xs,n,_,rfl,hl,hlen,hf⟩:=DataW.trod_struct ht h
 match xs,hlen with
 | [y0,y1,y2,y3],_=>exact ⟨y0,y1,y2,y3,n,hl,by simpa using hf 0 f0 rfl,by simpa using hf 1 f1 rfl,by simpa using hf 2 f2 rfl,by simpa using hf 3 f3 rfl⟩
theorem read_ref {H:Type} {enc:TypeId×Value→H} {W:World} {fuel:Nat} {cs:List Value} {x:DataW H×List MemPlace} (hl:cs.length=4)
 (h:DataW.trod enc Tryz.prog W 0 (fun _=>true) true fuel 54 cs=some x):∃ (b:Bool) (c m d:ByteArray),cs=[.bool b,.string c,.string m,.string d]∧c.size≤maxLen∧m.size≤maxLen∧d.size≤maxLen:=by
 obtain ⟨y0,y1,y2,y3,n,_,h0,h1,h2,h3⟩:=trod_struct4 Tryz.underlying54 h
 obtain ⟨c0,c1,c2,c3,rfl⟩:∃ c0 c1 c2 c3,cs=[c0,c1,c2,c3]:=by
  match cs,hl with
  | [c0,c1,c2,c3],_=>exact ⟨c0,c1,c2,c3,rfl⟩
 simp only [List.drop_zero,List.drop_succ_cons,Tryz.c4,Tryz.c9,List.take_succ_cons,List.take_zero] at h0 h1 h2 h3
 obtain ⟨b,e0,_⟩:=DataW.trod_bool Tryz.underlying4 h0
 obtain ⟨c,e1,_,w1⟩:=DataW.trod_string Tryz.underlying9 h1
 obtain ⟨m,e2,_,w2⟩:=DataW.trod_string Tryz.underlying9 h2
 obtain ⟨d,e3,_,w3⟩:=DataW.trod_string Tryz.underlying9 h3
 simp at e0 e1 e2 e3
 subst e0 e1 e2 e3
 exact ⟨b,c,m,d,rfl,w1,w2,w3⟩
def InsW (i:Ins):Prop:=(-9223372036854775808≤i.n∧i.n≤9223372036854775807)∧Ze7 i
theorem Zbm {n:Int} (h:(Lit.int .i64 n).wf=true):-9223372036854775808≤n∧n≤9223372036854775807:=by
 simpa [Lit.wf,IntKind.min,IntKind.max,IntKind.signed,IntKind.bits] using h
theorem Zhv {H:Type} {enc:TypeId×Value→H} {W:World} {fuel:Nat} {cs:List Value} {x:DataW H×List MemPlace} (hl:cs.length=7)
 (h:DataW.trod enc Tryz.prog W 0 (fun _=>true) true fuel 56 cs=some x):∃ i:Ins,cs=insC i∧InsW i:=by
 obtain ⟨y0,y1,y2,y3,n,_,h0,h1,h2,h3⟩:=trod_struct4 Tryz.underlying56 h
 obtain ⟨c0,c1,c2,c3,c4,c5,c6,rfl⟩:∃ c0 c1 c2 c3 c4 c5 c6,cs=[c0,c1,c2,c3,c4,c5,c6]:=by
  match cs,hl with
  | [c0,c1,c2,c3,c4,c5,c6],_=>exact ⟨c0,c1,c2,c3,c4,c5,c6,rfl⟩
 simp only [List.drop_zero,List.drop_succ_cons,Tryz.c3,Tryz.c9,Tryz.c23,List.take_succ_cons,List.take_zero] at h0 h1 h2 h3
 obtain ⟨op,e0,_,_⟩:=DataW.trod_int Tryz.underlying3 h0
 obtain ⟨nn,e1,_,w1⟩:=DataW.trod_int Tryz.underlying3 h1
 obtain ⟨t,e2,_,w2⟩:=DataW.trod_string Tryz.underlying9 h2
 obtain ⟨b,c,m,d,e3,w3,w4,w5⟩:=read_ref (by rfl) h3
 simp at e0 e1 e2 e3
 obtain ⟨e3,e4,e5,e6⟩:=e3
 subst e0 e1 e2 e3 e4 e5 e6
 exact ⟨⟨op,nn,t,b,c,m,d⟩,rfl,Zbm w1,w2,w3,w4,w5⟩
theorem add_add (a:Addr) (h:a.spot=none) (i j:Nat):(a.add i).add j=a.add (i+j):=by
 obtain ⟨b,o,sp⟩:=a
 simp at h
 subst h
 rw [add_plain,add_plain,add_plain,Nat.add_assoc]
theorem Zas (l:List Ins) (k:Nat) (i:Ins) (h:l[k]?=some i) (j:Nat) (hj:j<7):(Yr l)[k * 7+j]?=(insC i)[j]?:=by
 obtain ⟨e0,e1,e2,e3,e4,e5,e6⟩:=flatI_at l k i h
 match j,hj with
 | 0,_=>exact e0
 | 1,_=>exact e1
 | 2,_=>exact e2
 | 3,_=>exact e3
 | 4,_=>exact e4
 | 5,_=>exact e5
 | 6,_=>exact e6
theorem Zhw {H:Type} {enc:TypeId×Value→H} {W:World} {fuel:Nat} {cs:List Value} {x:DataW H×List MemPlace} (h:DataW.trod enc Tryz.prog W 0 (fun _=>true) true fuel 46 cs=some x) :
 ∃ (v:Value) (l:List Ins),cs=[v]∧IsInss W v l∧((v=.slice none 0 0∧l.length=0)∨∃ ad c,v=.slice (some ad) l.length c∧∀ j u,(Yr l)[j]?=some u→W.cell? (ad.add j)=some u) ∧
   (∀ i∈l,InsW i)∧(l.length=0∨∃ elems spare,x.1=.slice elems spare∧elems.length=l.length):=by
 rcases open_slice Tryz.underlying46 h with ⟨rfl,rfl⟩|⟨a,len,cap,m,n,D,Pl,rfl,_,hl,hm,hmm,hx,hel⟩
 ·exact ⟨_,[],rfl,⟨none,0,rfl,Nat.le_refl _,by unfold maxLen;omega,fun h=>absurd rfl h⟩,.inl ⟨rfl,rfl⟩,fun t ht=>by simp at ht,.inl rfl⟩
 ·simp at hmm
  have:Inhabited Ins:=⟨⟨0,0,⟨#[]⟩,false,⟨#[]⟩,⟨#[]⟩,⟨#[]⟩⟩⟩
  obtain ⟨V,hV⟩:=choose_lt (α:=Ins) (n:=len) (p:=fun i t=>(∀ j u,(insC t)[j]?=some u→W.cell? ((a.add (i * 7)).add j)=some u)∧InsW t) (fun i hi=>by
   obtain ⟨cs',h1,h2⟩:=hel i (by omega)
   rw [Tryz.c25] at h1
   obtain ⟨_,hlen,hc⟩:=World.cells?_some h1
   obtain ⟨t,rfl,hsz⟩:=Zhv hlen h2
   refine ⟨t,fun j u hj=>?_,hsz⟩
   have hj7:j<7:=(List.getElem?_eq_some_iff.1 hj).1
   exact (hc j hj7).trans hj)
  have hspot:0<len→a.spot=none:=fun h0=>by
   have:=World.cell?_spot ((hV 0 h0).1 0 _ rfl)
   obtain ⟨b,o,sp⟩:=a
   simpa [Addr.add] using this
  have htl:((List.range len).map V).length=len:=by simp
  have hat:∀ k t,((List.range len).map V)[k]?=some t→k<len∧t=V k:=fun k t hk=>by
   rw [List.getElem?_map] at hk
   cases e:(List.range len)[k]? with
   | none=>rw [e] at hk;simp at hk
   | some y =>
     rw [e] at hk
     obtain ⟨h1,h2⟩:=List.getElem?_eq_some_iff.1 e
     simp at h1 h2 hk
     exact ⟨h1,by rw [← hk,← h2]⟩
  refine ⟨_,(List.range len).map V,rfl,?_,.inr ⟨a,cap,by rw [htl],?_⟩,?_,.inr ⟨_,_,by rw [hx],by simp⟩⟩
  ·refine ⟨some a,cap,by rw [htl],by rw [htl];exact hl,hm,fun hne=>?_⟩
   have h0:0<len:=by
    cases len with
    | zero=>simp at hne
    | succ k=>omega
   have hsp:=hspot h0
   obtain ⟨b,o,sp⟩:=a
   simp at hsp
   subst hsp
   refine ⟨b,o,rfl,?_,fun k t hk=>?_⟩
   ·have:=World.block_lt_of_cell? W _ ((hV 0 h0).1 0 _ rfl)
    rw [add_plain,add_plain] at this
    exact this
   ·obtain ⟨hk1,rfl⟩:=hat k t hk
    have h1:∀ j u,(insC (V k))[j]?=some u→W.cell? ⟨b,o+k * 7+j,none⟩=some u:=fun j u hj=>by
     have:=(hV k hk1).1 j u hj
     rw [add_plain,add_plain] at this
     exact this
    exact ⟨h1 0 _ rfl,h1 1 _ rfl,h1 2 _ rfl,h1 3 _ rfl,h1 4 _ rfl,h1 5 _ rfl,h1 6 _ rfl⟩
  ·intro j u hj
   have hjl:j<len * 7:=by
    have:=(List.getElem?_eq_some_iff.1 hj).1
    rw [Yk,htl] at this
    exact this
   have hk:j / 7<len:=by omega
   have hsp:=hspot (by omega)
   have hkk:((List.range len).map V)[j / 7]?=some (V (j / 7)):=by simp [hk]
   have h2:=Zas _ (j / 7) _ hkk (j % 7) (by omega)
   rw [show j / 7 * 7+j % 7=j by omega,hj] at h2
   have h1:=(hV (j / 7) hk).1 (j % 7) u h2.symm
   rw [add_add a hsp,show j / 7 * 7+j % 7=j by omega] at h1
   exact h1
  ·intro t ht
   obtain ⟨k,hk⟩:=List.mem_iff_getElem?.1 ht
   obtain ⟨hk1,rfl⟩:=hat k t hk
   exact (hV k hk1).2
end Go.Proofs.YtkoogmegdfpopaaGreat
