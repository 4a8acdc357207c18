import Derived.Test.YtkoogmegdfpopaaGreatArgI
import Derived.Test.YtkoogmegdfpopaaGreatShpG
set_option maxRecDepth 100000
namespace Go.Proofs.YtkoogmegdfpopaaGreat
open Go.ChangeShapes Go.WideShapes Go.ChangeAt Go.RowKit Go.Joins Go.Deep
theorem Tryz.cM:Tryz.prog.cellsOf 48=6:=by kernel_rfl
theorem Tryz.cC:Tryz.prog.cellsOf 33=6:=by kernel_rfl
theorem Tryz.cS:Tryz.prog.cellsOf 30=1:=by kernel_rfl
theorem Tryz.cMs:Tryz.prog.cellsOf 31=1:=by kernel_rfl
theorem Jq {H:Type} {enc:TypeId×Value→H} {P:Program} {w:World} {base:Nat} {spare:Nat→Bool} {held:Bool} {t:TypeId} {f0 f1 f2 f3 f4 f5:Field} {fuel:Nat} {cs:List Value} {x:DataW H×List MemPlace} (ht:P.underlying t=some (.struct #[f0,f1,f2,f3,f4,f5])) (h:DataW.trod enc P w base spare held fuel t cs=some x) :
 ∃ y0 y1 y2 y3 y4 y5 n,cs.length=P.cellsOf t∧DataW.trod enc P w base spare held n f0.type ((cs.drop f0.offset).take (P.cellsOf f0.type))=some y0 ∧
   DataW.trod enc P w base spare held n f1.type ((cs.drop f1.offset).take (P.cellsOf f1.type))=some y1∧DataW.trod enc P w base spare held n f2.type ((cs.drop f2.offset).take (P.cellsOf f2.type))=some y2 ∧
   DataW.trod enc P w base spare held n f3.type ((cs.drop f3.offset).take (P.cellsOf f3.type))=some y3∧DataW.trod enc P w base spare held n f4.type ((cs.drop f4.offset).take (P.cellsOf f4.type))=some y4 ∧
   DataW.trod enc P w base spare held n f5.type ((cs.drop f5.offset).take (P.cellsOf f5.type))=some y5:=by
 obtain ⟨xs,n,_,rfl,hl,hlen,hf⟩:=DataW.trod_struct ht h
 match xs,hlen with
 | [y0,y1,y2,y3,y4,y5],_=>exact ⟨y0,y1,y2,y3,y4,y5,n,hl,by simpa using hf 0 f0 rfl,by simpa using hf 1 f1 rfl,by simpa using hf 2 f2 rfl,by simpa using hf 3 f3 rfl,by simpa using hf 4 f4 rfl,by simpa using hf 5 f5 rfl⟩
def Shp (v:Value):Prop:=v=.slice none 0 0∨∃ a n c,v=.slice (some a) n c
theorem Zht {H:Type} {enc:TypeId×Value→H} {W:World} {fuel:Nat} {cs:List Value} {x:DataW H×List MemPlace} (h:DataW.trod enc Tryz.prog W 0 (fun _=>true) true fuel 30 cs=some x) :
 ∃ (v:Value) (l:List (List UInt8)),cs=[v]∧IsStrs W v l∧(∀ p∈l,p.length≤maxLen)∧Shp v:=by
 rcases open_slice Tryz.underlying30 h with ⟨rfl,rfl⟩|⟨a,len,cap,m,n,D,Pl,rfl,_,hl,hm,hmm,hx,hel⟩
 ·exact ⟨_,[],rfl,⟨none,0,rfl,Nat.le_refl _,by unfold maxLen;omega,fun h=>absurd rfl h⟩,fun t ht=>by simp at ht,.inl rfl⟩
 ·simp at hmm
  obtain ⟨V,hV⟩:=choose_lt (α:=List UInt8) (n:=len) (p:=fun i t=>W.cell? (a.add i)=some (.string ⟨t.toArray⟩)∧t.length≤maxLen) (fun i hi=>by
   obtain ⟨cs',h1,h2⟩:=hel i (by omega)
   rw [Tryz.c9] at h1
   obtain ⟨_,hlen,hc⟩:=World.cells?_some h1
   obtain ⟨s,rfl,_,hw⟩:=DataW.trod_string Tryz.underlying9 h2
   refine ⟨s.data.toList,?_,(show s.data.toList.length=s.size by rw [Array.length_toList];rfl) ▸ hw⟩
   have:=hc 0 (by omega)
   simpa [Addr.add] using this)
  have hspot:0<len→a.spot=none:=fun h0=>by
   have:=World.cell?_spot (hV 0 h0).1
   obtain ⟨b,o,sp⟩:=a
   simpa [Addr.add] using this
  have htl:((List.range len).map V).length=len:=by simp
  have hat:∀ k t,((List.range len).map V)[k]?=some t→k<len∧t=V k:=fun k t hk=>by
   rw [List.getElem?_map] at hk
   cases e:(List.range len)[k]? with
   | none=>rw [e] at hk;simp at hk
   | some y =>
     rw [e] at hk
     obtain ⟨h1,h2⟩:=List.getElem?_eq_some_iff.1 e
     simp at h1 h2 hk
     exact ⟨h1,by rw [← hk,← h2]⟩
  refine ⟨_,(List.range len).map V,rfl,?_,?_,.inr ⟨_,_,_,rfl⟩⟩
  ·refine ⟨some a,cap,by rw [htl],by rw [htl];exact hl,hm,fun hne=>?_⟩
   have h0:0<len:=by
    cases len with
    | zero=>simp at hne
    | succ k=>omega
   have hsp:=hspot h0
   obtain ⟨b,o,sp⟩:=a
   simp at hsp
   subst hsp
   refine ⟨b,o,rfl,?_,fun k t hk=>?_⟩
   ·have:=World.block_lt_of_cell? W _ (hV 0 h0).1
    rw [add_plain] at this
    exact this
   ·obtain ⟨hk1,rfl⟩:=hat k t hk
    have:=(hV k hk1).1
    rw [add_plain] at this
    exact this
  ·intro t ht
   obtain ⟨k,hk⟩:=List.mem_iff_getElem?.1 ht
   obtain ⟨hk1,rfl⟩:=hat k t hk
   exact (hV k hk1).2
def MthW (m:Mth):Prop:=m.nm.size≤maxLen∧m.ds.size≤maxLen∧(-9223372036854775808≤m.fl∧m.fl≤9223372036854775807)∧(-9223372036854775808≤m.lo∧m.lo≤9223372036854775807)∧(-9223372036854775808≤m.st∧m.st≤9223372036854775807)∧∀ i∈m.code,InsW i
theorem read_mth {H:Type} {enc:TypeId×Value→H} {W:World} {fuel:Nat} {cs:List Value} {x:DataW H×List MemPlace} (hl:cs.length=6)
 (h:DataW.trod enc Tryz.prog W 0 (fun _=>true) true fuel 48 cs=some x):∃ (m:Mth) (vc:Value),cs=[.string m.nm,.string m.ds,.int .i64 m.fl,.int .i64 m.lo,.int .i64 m.st,vc]∧IsInss W vc m.code∧MthW m∧Shp vc:=by
 obtain ⟨y0,y1,y2,y3,y4,y5,n,_,h0,h1,h2,h3,h4,h5⟩:=Jq Tryz.underlying48 h
 obtain ⟨c0,c1,c2,c3,c4,c5,rfl⟩:∃ c0 c1 c2 c3 c4 c5,cs=[c0,c1,c2,c3,c4,c5]:=by
  match cs,hl with
  | [c0,c1,c2,c3,c4,c5],_=>exact ⟨c0,c1,c2,c3,c4,c5,rfl⟩
 simp only [List.drop_zero,List.drop_succ_cons,Tryz.c3,Tryz.c9,Tryz.c40,List.take_succ_cons,List.take_zero] at h0 h1 h2 h3 h4 h5
 obtain ⟨nm,e0,_,w0⟩:=DataW.trod_string Tryz.underlying9 h0
 obtain ⟨ds,e1,_,w1⟩:=DataW.trod_string Tryz.underlying9 h1
 obtain ⟨fl,e2,_,w2⟩:=DataW.trod_int Tryz.underlying3 h2
 obtain ⟨lo,e3,_,w3⟩:=DataW.trod_int Tryz.underlying3 h3
 obtain ⟨st,e4,_,w4⟩:=DataW.trod_int Tryz.underlying3 h4
 obtain ⟨vc,code,e5,hI,hS,hw,_⟩:=Zhw h5
 simp at e0 e1 e2 e3 e4 e5
 subst e0 e1 e2 e3 e4 e5
 exact ⟨⟨nm,ds,fl,lo,st,code⟩,c5,rfl,hI,⟨w0,w1,Zbm w2,Zbm w3,Zbm w4,hw⟩,hS.imp And.left (fun ⟨ad,k,e,_⟩=>⟨ad,_,k,e⟩)⟩
theorem Zhu {H:Type} {enc:TypeId×Value→H} {W:World} {fuel:Nat} {cs:List Value} {x:DataW H×List MemPlace} (h:DataW.trod enc Tryz.prog W 0 (fun _=>true) true fuel 31 cs=some x) :
 ∃ (v:Value) (l:List Mth),cs=[v]∧IsMths W v l∧(∀ m∈l,MthW m)∧Shp v∧∀ bk o n cap,v=.slice (some ⟨bk,o,none⟩) n cap→∀ k,k<l.length→∀ u,W.cell? ⟨bk,o+k * 6+5,none⟩=some u→Shp u:=by
 rcases open_slice Tryz.underlying31 h with ⟨rfl,rfl⟩|⟨a,len,cap,m,n,D,Pl,rfl,_,hl,hm,hmm,hx,hel⟩
 ·exact ⟨_,[],rfl,⟨none,0,rfl,Nat.le_refl _,by unfold maxLen;omega,fun h=>absurd rfl h⟩,fun t ht=>by simp at ht,.inl rfl,fun _ _ _ _ _ k hk=>absurd hk (Nat.not_lt_zero _)⟩
 ·simp at hmm
  have:Inhabited Mth:=⟨⟨⟨#[]⟩,⟨#[]⟩,0,0,0,[]⟩⟩
  obtain ⟨V,hV⟩:=choose_lt (α:=Mth) (n:=len) (p:=fun i t=>(∃ vc,(∀ j u,[Value.string t.nm,.string t.ds,.int .i64 t.fl,.int .i64 t.lo,.int .i64 t.st,vc][j]?=some u→W.cell? ((a.add (i * 6)).add j)=some u)∧IsInss W vc t.code∧Shp vc)∧MthW t) (fun i hi=>by
   obtain ⟨cs',h1,h2⟩:=hel i (by omega)
   rw [Tryz.cM] at h1
   obtain ⟨_,hlen,hc⟩:=World.cells?_some h1
   obtain ⟨t,vc,rfl,hI,hsz,hS⟩:=read_mth hlen h2
   refine ⟨t,⟨vc,fun j u hj=>?_,hI,hS⟩,hsz⟩
   have hj6:j<6:=(List.getElem?_eq_some_iff.1 hj).1
   exact (hc j hj6).trans hj)
  have hspot:0<len→a.spot=none:=fun h0=>by
   obtain ⟨⟨vc,hc,_⟩,_⟩:=hV 0 h0
   have:=World.cell?_spot (hc 0 _ rfl)
   obtain ⟨b,o,sp⟩:=a
   simpa [Addr.add] using this
  have htl:((List.range len).map V).length=len:=by simp
  have hat:∀ k t,((List.range len).map V)[k]?=some t→k<len∧t=V k:=fun k t hk=>by
   rw [List.getElem?_map] at hk
   cases e:(List.range len)[k]? with
   | none=>rw [e] at hk;simp at hk
   | some y =>
     rw [e] at hk
     obtain ⟨h1,h2⟩:=List.getElem?_eq_some_iff.1 e
     simp at h1 h2 hk
     exact ⟨h1,by rw [← hk,← h2]⟩
  refine ⟨_,(List.range len).map V,rfl,?_,?_,.inr ⟨_,_,_,rfl⟩,?_⟩
  ·refine ⟨some a,cap,by rw [htl],by rw [htl];exact hl,hm,fun hne=>?_⟩
   have h0:0<len:=by
    cases len with
    | zero=>simp at hne
    | succ k=>omega
   have hsp:=hspot h0
   obtain ⟨b,o,sp⟩:=a
   simp at hsp
   subst hsp
   refine ⟨b,o,rfl,?_,fun k t hk=>?_⟩
   ·obtain ⟨⟨vc,hc,_⟩,_⟩:=hV 0 h0
    have:=World.block_lt_of_cell? W _ (hc 0 _ rfl)
    rw [add_plain,add_plain] at this
    exact this
   ·obtain ⟨hk1,rfl⟩:=hat k t hk
    obtain ⟨⟨vc,hc,hI,_⟩,_⟩:=hV k hk1
    have h1:∀ j u,[Value.string (V k).nm,.string (V k).ds,.int .i64 (V k).fl,.int .i64 (V k).lo,.int .i64 (V k).st,vc][j]?=some u→W.cell? ⟨b,o+k * 6+j,none⟩=some u:=fun j u hj=>by
     have:=hc j u hj
     rw [add_plain,add_plain] at this
     exact this
    exact ⟨h1 0 _ rfl,h1 1 _ rfl,h1 2 _ rfl,h1 3 _ rfl,h1 4 _ rfl,vc,h1 5 _ rfl,hI⟩
  ·intro t ht
   obtain ⟨k,hk⟩:=List.mem_iff_getElem?.1 ht
   obtain ⟨hk1,rfl⟩:=hat k t hk
   exact (hV k hk1).2
  ·intro bk o n2 c2 ev k hk u hu
   rw [htl] at hk
   injection ev with e1
   injection e1 with e1
   subst e1
   obtain ⟨⟨vc,hc,_,hS⟩,_⟩:=hV k hk
   have h5:=hc 5 vc rfl
   rw [add_plain,add_plain,hu] at h5
   cases h5
   exact hS
def ClsW (c:Cls):Prop:=c.nm.size≤maxLen∧c.su.size≤maxLen∧(∀ p∈c.ifs,p.length≤maxLen)∧(-9223372036854775808≤c.fl∧c.fl≤9223372036854775807)∧(-9223372036854775808≤c.ld∧c.ld≤9223372036854775807)∧∀ m∈c.ms,MthW m
structure ClsIn (W:World) (vi vm:Value) (c:Cls):Prop where
 ifs:IsStrs W vi c.ifs
 ms:IsMths W vm c.ms
 si:Shp vi
 sm:Shp vm
 sc:∀ bk o n cap,vm=.slice (some ⟨bk,o,none⟩) n cap→∀ k,k<c.ms.length→∀ v,W.cell? ⟨bk,o+k * 6+5,none⟩=some v→Shp v
 ok:ClsW c
theorem read_cl6 {H:Type} {enc:TypeId×Value→H} {W:World} {fuel:Nat} {cs:List Value} {x:DataW H×List MemPlace} (hl:cs.length=6)
 (h:DataW.trod enc Tryz.prog W 0 (fun _=>true) true fuel 33 cs=some x):∃ (c:Cls) (vi vm:Value),cs=[.string c.nm,.string c.su,vi,.int .i64 c.fl,.int .i64 c.ld,vm]∧ClsIn W vi vm c:=by
 obtain ⟨y0,y1,y2,y3,y4,y5,n,_,h0,h1,h2,h3,h4,h5⟩:=Jq Tryz.underlying33 h
 obtain ⟨c0,c1,c2,c3,c4,c5,rfl⟩:∃ c0 c1 c2 c3 c4 c5,cs=[c0,c1,c2,c3,c4,c5]:=by
  match cs,hl with
  | [c0,c1,c2,c3,c4,c5],_=>exact ⟨c0,c1,c2,c3,c4,c5,rfl⟩
 simp only [List.drop_zero,List.drop_succ_cons,Tryz.c3,Tryz.c9,Tryz.cS,Tryz.cMs,List.take_succ_cons,List.take_zero] at h0 h1 h2 h3 h4 h5
 obtain ⟨nm,e0,_,w0⟩:=DataW.trod_string Tryz.underlying9 h0
 obtain ⟨su,e1,_,w1⟩:=DataW.trod_string Tryz.underlying9 h1
 obtain ⟨vi,ifs,e2,hI,w2,s2⟩:=Zht h2
 obtain ⟨fl,e3,_,w3⟩:=DataW.trod_int Tryz.underlying3 h3
 obtain ⟨ld,e4,_,w4⟩:=DataW.trod_int Tryz.underlying3 h4
 obtain ⟨vm,ms,e5,hM,w5,s5,s6⟩:=Zhu h5
 simp at e0 e1 e2 e3 e4 e5
 subst e0 e1 e2 e3 e4 e5
 exact ⟨⟨nm,su,ifs,fl,ld,ms⟩,c2,c5,rfl,hI,hM,s2,s5,s6,w0,w1,w2,Zbm w3,Zbm w4,w5⟩
def Zef (w:World) (v:Value) (l:List Cls):Prop :=
 ∃ ao cap,v=.slice ao l.length cap∧l.length≤cap∧cap≤maxLen ∧
   (l≠[]→∃ bk o,ao=some ⟨bk,o,none⟩∧bk<w.heap.size∧∀ k c,l[k]?=some c→∃ vi vm,(∀ j u,[Value.string c.nm,.string c.su,vi,.int .i64 c.fl,.int .i64 c.ld,vm][j]?=some u→w.cell? ⟨bk,o+k * 6+j,none⟩=some u)∧ClsIn w vi vm c)
theorem Zhx {H:Type} {enc:TypeId×Value→H} {W:World} {fuel:Nat} {cs:List Value} {x:DataW H×List MemPlace} (h:DataW.trod enc Tryz.prog W 0 (fun _=>true) true fuel 22 cs=some x) :
 ∃ (v:Value) (l:List Cls),cs=[v]∧Zef W v l:=by
 rcases open_slice Tryz.underlying22 h with ⟨rfl,rfl⟩|⟨a,len,cap,m,n,D,Pl,rfl,_,hl,hm,hmm,hx,hel⟩
 ·exact ⟨_,[],rfl,⟨none,0,rfl,Nat.le_refl _,by unfold maxLen;omega,fun h=>absurd rfl h⟩⟩
 ·simp at hmm
  have:Inhabited Cls:=⟨⟨⟨#[]⟩,⟨#[]⟩,[],0,0,[]⟩⟩
  obtain ⟨V,hV⟩:=choose_lt (α:=Cls) (n:=len) (p:=fun i c=>∃ vi vm,(∀ j u,[Value.string c.nm,.string c.su,vi,.int .i64 c.fl,.int .i64 c.ld,vm][j]?=some u→W.cell? ((a.add (i * 6)).add j)=some u)∧ClsIn W vi vm c) (fun i hi=>by
   obtain ⟨cs',h1,h2⟩:=hel i (by omega)
   rw [Tryz.cC] at h1
   obtain ⟨_,hlen,hc⟩:=World.cells?_some h1
   obtain ⟨t,vi,vm,rfl,hI⟩:=read_cl6 hlen h2
   refine ⟨t,vi,vm,fun j u hj=>?_,hI⟩
   have hj6:j<6:=(List.getElem?_eq_some_iff.1 hj).1
   exact (hc j hj6).trans hj)
  have hspot:0<len→a.spot=none:=fun h0=>by
   obtain ⟨vi,vm,hc,_⟩:=hV 0 h0
   have:=World.cell?_spot (hc 0 _ rfl)
   obtain ⟨b,o,sp⟩:=a
   simpa [Addr.add] using this
  have htl:((List.range len).map V).length=len:=by simp
  have hat:∀ k t,((List.range len).map V)[k]?=some t→k<len∧t=V k:=fun k t hk=>by
   rw [List.getElem?_map] at hk
   cases e:(List.range len)[k]? with
   | none=>rw [e] at hk;simp at hk
   | some y =>
     rw [e] at hk
     obtain ⟨h1,h2⟩:=List.getElem?_eq_some_iff.1 e
     simp at h1 h2 hk
     exact ⟨h1,by rw [← hk,← h2]⟩
  refine ⟨_,(List.range len).map V,rfl,some a,cap,by rw [htl],by rw [htl];exact hl,hm,fun hne=>?_⟩
  have h0:0<len:=by
   cases len with
   | zero=>simp at hne
   | succ k=>omega
  have hsp:=hspot h0
  obtain ⟨b,o,sp⟩:=a
  simp at hsp
  subst hsp
  refine ⟨b,o,rfl,?_,fun k t hk=>?_⟩
  ·obtain ⟨vi,vm,hc,_⟩:=hV 0 h0
   have:=World.block_lt_of_cell? W _ (hc 0 _ rfl)
   rw [add_plain,add_plain] at this
   exact this
  ·obtain ⟨hk1,rfl⟩:=hat k t hk
   obtain ⟨vi,vm,hc,hI⟩:=hV k hk1
   refine ⟨vi,vm,fun j u hj=>?_,hI⟩
   have:=hc j u hj
   rw [add_plain,add_plain] at this
   exact this
end Go.Proofs.YtkoogmegdfpopaaGreat
