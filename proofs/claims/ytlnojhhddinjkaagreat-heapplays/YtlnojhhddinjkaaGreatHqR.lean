import Derived.Test.YtlnojhhddinjkaaGreatHqM
set_option maxRecDepth 100000
namespace Go.Proofs.YtlnojhhddinjkaaGreat
open Go.ChangeShapes Go.WideShapes Go.ChangeAt Go.RowKit Go.Joins Go.Deep
structure OpH where
 kd:Int
 a:Int
 b:Int
 v:Bool×Int
 d:Int
 nm:ByteArray
 lv:Value
 l:List Int
def Zfi (W:World) (v:Value) (ts:List Int):Prop:=∃ ao cap,v=.slice ao ts.length cap∧ts.length≤cap∧cap≤maxLen∧(ao=none→cap=0)∧(ts≠[]→∃ b o,ao=some ⟨b,o,none⟩∧b<W.heap.size∧∀ k t,ts[k]?=some t→W.cell? ⟨b,o+k,none⟩=some (.int .i64 t))
def Zhw (W:World) (v:Value) (ts:List OpH):Prop:=∃ ao cap,v=.slice ao ts.length cap∧ts.length≤maxLen∧(∀ t∈ts,t.nm.size≤maxLen∧Zfi W t.lv t.l)∧(ts≠[]→∃ b o,ao=some ⟨b,o,none⟩∧b<W.heap.size∧∀ k t,ts[k]?=some t→W.cell? ⟨b,o+k * 8,none⟩=some (.int .i64 t.kd)∧W.cell? ⟨b,o+k * 8+1,none⟩=some (.int .i64 t.a)∧W.cell? ⟨b,o+k * 8+2,none⟩=some (.int .i64 t.b)∧W.cell? ⟨b,o+k * 8+3,none⟩=some (.bool t.v.1)∧W.cell? ⟨b,o+k * 8+4,none⟩=some (.int .i64 t.v.2)∧W.cell? ⟨b,o+k * 8+5,none⟩=some (.int .i64 t.d)∧W.cell? ⟨b,o+k * 8+6,none⟩=some (.string t.nm)∧W.cell? ⟨b,o+k * 8+7,none⟩=some t.lv)
theorem Tryz.cellsOp8:Tryz.prog.cellsOf 43=8:=by kernel_rfl
theorem Tryz.cellsIntH:Tryz.prog.cellsOf 3=1:=by kernel_rfl
theorem Tryz.cellsBoolH:Tryz.prog.cellsOf 4=1:=by kernel_rfl
theorem Tryz.cellsValH:Tryz.prog.cellsOf 38=2:=by kernel_rfl
theorem Tryz.cellsTyH:Tryz.prog.cellsOf 40=2:=by kernel_rfl
theorem Tryz.cellsSlH:Tryz.prog.cellsOf 41=1:=by kernel_rfl
theorem addp (b o k:Nat):(⟨b,o,none⟩:Addr).add k=⟨b,o+k,none⟩:=Addr.add_lit ..
theorem Za4 {α:Type} {len:Nat} {V:Nat→α} {k:Nat} {t:α} (hk:((List.range len).map V)[k]?=some t):k<len∧t=V k:=by
 rw [List.getElem?_map] at hk
 cases e:(List.range len)[k]? with
 | none=>rw [e] at hk;simp at hk
 | some y =>
   rw [e] at hk
   obtain ⟨h1,h2⟩:=List.getElem?_eq_some_iff.1 e
   simp at h1 h2 hk
   exact ⟨h1,by rw [← hk,← h2]⟩
theorem Zjq {H:Type} {enc:TypeId×Value→H} {W:World} {fuel:Nat} {cs:List Value} {x:DataW H×List MemPlace} (h:DataW.trod enc Tryz.prog W 0 (fun _=>true) true fuel 41 cs=some x) :
 ∃ (v:Value) (ts:List Int),cs=[v]∧Zfi W v ts:=by
 rcases open_slice Tryz.underlying41 h with ⟨rfl,rfl⟩|⟨a,len,cap,m,n,D,Pl,rfl,_,hl,hm,hmm,hx,hel⟩
 ·exact ⟨_,[],rfl,⟨none,0,rfl,Nat.le_refl _,Nat.zero_le _,fun _=>rfl,fun h=>absurd rfl h⟩⟩
 ·simp at hmm
  obtain ⟨V,hV⟩:=choose_lt (α:=Int) (n:=len) (p:=fun i t=>W.cell? ((a.add (i * 1)).add 0)=some (.int .i64 t)) (fun i hi=>by
   obtain ⟨cs',h1,h2⟩:=hel i (by omega)
   rw [Tryz.cellsIntH] at h1
   obtain ⟨_,hlen,hc⟩:=World.cells?_some h1
   obtain ⟨u,e0,_,_⟩:=DataW.trod_int Tryz.underlying3 h2
   subst e0
   exact ⟨u,by simpa using hc 0 (by omega)⟩)
  have hspot:0<len→a.spot=none:=fun h0=>by
   have h1:=hV 0 h0
   obtain ⟨b,o,sp⟩:=a
   have:=World.cell?_spot h1
   simpa [Addr.add] using this
  have htl:((List.range len).map V).length=len:=by simp
  refine ⟨_,(List.range len).map V,rfl,some a,cap,by rw [htl],by rw [htl];omega,by omega,fun e=>(by cases e),fun hne=>?_⟩
  have h0:0<len:=by
   cases len with
   | zero=>simp at hne
   | succ k=>omega
  have hsp:=hspot h0
  obtain ⟨b,o,sp⟩:=a
  simp at hsp
  subst hsp
  refine ⟨b,o,rfl,?_,fun k t hk=>?_⟩
  ·have:=World.block_lt_of_cell? W _ (hV 0 h0)
   rw [addp,addp] at this
   exact this
  ·obtain ⟨hk1,rfl⟩:=Za4 hk
   have h1:=hV k hk1
   rw [addp,addp] at h1
   simpa using h1
theorem Zjn {H:Type} {enc:TypeId×Value→H} {W:World} {fuel:Nat} {cs:List Value} {x:DataW H×List MemPlace} (hl:cs.length=2)
 (h:DataW.trod enc Tryz.prog W 0 (fun _=>true) true fuel 38 cs=some x):∃ (r:Bool) (n:Int),cs=[.bool r,.int .i64 n]:=by
 obtain ⟨y0,y1,n,_,_,h0,h1⟩:=trod_struct2 Tryz.underlying38 h
 obtain ⟨c0,c1,rfl⟩:∃ c0 c1,cs=[c0,c1]:=by
  match cs,hl with
  | [c0,c1],_=>exact ⟨c0,c1,rfl⟩
 simp only [List.drop_zero,List.drop_succ_cons,Tryz.cellsIntH,Tryz.cellsBoolH,List.take_succ_cons,List.take_zero] at h0 h1
 obtain ⟨a,e0,_,_⟩:=DataW.trod_bool Tryz.underlying4 h0
 obtain ⟨b,e1,_,_⟩:=DataW.trod_int Tryz.underlying3 h1
 simp at e0 e1
 subst e0 e1
 exact ⟨a,b,rfl⟩
theorem read_opH {H:Type} {enc:TypeId×Value→H} {W:World} {fuel:Nat} {cs:List Value} {x:DataW H×List MemPlace} (hl:cs.length=8)
 (h:DataW.trod enc Tryz.prog W 0 (fun _=>true) true fuel 43 cs=some x):∃ t:OpH,cs=[.int .i64 t.kd,.int .i64 t.a,.int .i64 t.b,.bool t.v.1,.int .i64 t.v.2,.int .i64 t.d,.string t.nm,t.lv]∧t.nm.size≤maxLen∧Zfi W t.lv t.l:=by
 obtain ⟨xs,n,_,_,_,hlen,hf⟩:=DataW.trod_struct Tryz.underlying43 h
 obtain ⟨c0,c1,c2,c3,c4,c5,c6,c7,rfl⟩:∃ c0 c1 c2 c3 c4 c5 c6 c7,cs=[c0,c1,c2,c3,c4,c5,c6,c7]:=by
  match cs,hl with
  | [c0,c1,c2,c3,c4,c5,c6,c7],_=>exact ⟨c0,c1,c2,c3,c4,c5,c6,c7,rfl⟩
 obtain ⟨y0,y1,y2,y3,y4,y5,rfl⟩:∃ y0 y1 y2 y3 y4 y5,xs=[y0,y1,y2,y3,y4,y5]:=by
  match xs,hlen with
  | [y0,y1,y2,y3,y4,y5],_=>exact ⟨y0,y1,y2,y3,y4,y5,rfl⟩
 have h0:DataW.trod enc Tryz.prog W 0 (fun _=>true) true n 3 (List.take (Tryz.prog.cellsOf 3) (List.drop 0 [c0,c1,c2,c3,c4,c5,c6,c7]))=some y0:=hf 0 _ rfl
 rw [Tryz.cellsIntH] at h0
 have h1:DataW.trod enc Tryz.prog W 0 (fun _=>true) true n 3 (List.take (Tryz.prog.cellsOf 3) (List.drop 1 [c0,c1,c2,c3,c4,c5,c6,c7]))=some y1:=hf 1 _ rfl
 rw [Tryz.cellsIntH] at h1
 have h2:DataW.trod enc Tryz.prog W 0 (fun _=>true) true n 3 (List.take (Tryz.prog.cellsOf 3) (List.drop 2 [c0,c1,c2,c3,c4,c5,c6,c7]))=some y2:=hf 2 _ rfl
 rw [Tryz.cellsIntH] at h2
 have h3:DataW.trod enc Tryz.prog W 0 (fun _=>true) true n 38 (List.take (Tryz.prog.cellsOf 38) (List.drop 3 [c0,c1,c2,c3,c4,c5,c6,c7]))=some y3:=hf 3 _ rfl
 rw [Tryz.cellsValH] at h3
 have h4:DataW.trod enc Tryz.prog W 0 (fun _=>true) true n 40 (List.take (Tryz.prog.cellsOf 40) (List.drop 5 [c0,c1,c2,c3,c4,c5,c6,c7]))=some y4:=hf 4 _ rfl
 rw [Tryz.cellsTyH] at h4
 have h5:DataW.trod enc Tryz.prog W 0 (fun _=>true) true n 41 (List.take (Tryz.prog.cellsOf 41) (List.drop 7 [c0,c1,c2,c3,c4,c5,c6,c7]))=some y5:=hf 5 _ rfl
 rw [Tryz.cellsSlH] at h5
 simp only [List.drop_zero,List.drop_succ_cons,List.take_succ_cons,List.take_zero] at h0 h1 h2 h3 h4 h5
 obtain ⟨a,e0,_,_⟩:=DataW.trod_int Tryz.underlying3 h0
 obtain ⟨b,e1,_,_⟩:=DataW.trod_int Tryz.underlying3 h1
 obtain ⟨c,e2,_,_⟩:=DataW.trod_int Tryz.underlying3 h2
 obtain ⟨r,z,e3⟩:=Zjn (by simp) h3
 obtain ⟨d,nm,e4,hsz⟩:=read_ty2 (by simp) h4
 obtain ⟨lv,l,e5,hn⟩:=Zjq h5
 simp at e0 e1 e2 e3 e4 e5
 obtain ⟨rfl,rfl⟩:=e3
 obtain ⟨rfl,rfl⟩:=e4
 subst e0 e1 e2 e5
 exact ⟨⟨a,b,c,(r,z),d,nm,_,l⟩,rfl,hsz,hn⟩
theorem Zjp {H:Type} {enc:TypeId×Value→H} {W:World} {fuel:Nat} {cs:List Value} {x:DataW H×List MemPlace} (h:DataW.trod enc Tryz.prog W 0 (fun _=>true) true fuel 23 cs=some x) :
 ∃ (v:Value) (ts:List OpH),cs=[v]∧Zhw W v ts:=by
 rcases open_slice Tryz.underlying23 h with ⟨rfl,rfl⟩|⟨a,len,cap,m,n,D,Pl,rfl,_,hl,hm,hmm,hx,hel⟩
 ·exact ⟨_,[],rfl,⟨none,0,rfl,by unfold maxLen;simp,fun t ht=>by simp at ht,fun h=>absurd rfl h⟩⟩
 ·simp at hmm
  have:Inhabited OpH:=⟨⟨0,0,0,(false,0),0,⟨#[]⟩,.slice none 0 0,[]⟩⟩
  obtain ⟨V,hV⟩:=choose_lt (α:=OpH) (n:=len) (p:=fun i t=>(W.cell? ((a.add (i * 8)).add 0)=some (.int .i64 t.kd)∧W.cell? ((a.add (i * 8)).add 1)=some (.int .i64 t.a)∧W.cell? ((a.add (i * 8)).add 2)=some (.int .i64 t.b)∧W.cell? ((a.add (i * 8)).add 3)=some (.bool t.v.1)∧W.cell? ((a.add (i * 8)).add 4)=some (.int .i64 t.v.2)∧W.cell? ((a.add (i * 8)).add 5)=some (.int .i64 t.d)∧W.cell? ((a.add (i * 8)).add 6)=some (.string t.nm)∧W.cell? ((a.add (i * 8)).add 7)=some t.lv)∧t.nm.size≤maxLen∧Zfi W t.lv t.l) (fun i hi=>by
   obtain ⟨cs',h1,h2⟩:=hel i (by omega)
   rw [Tryz.cellsOp8] at h1
   obtain ⟨_,hlen,hc⟩:=World.cells?_some h1
   obtain ⟨t,rfl,hs,hn⟩:=read_opH hlen h2
   exact ⟨t,⟨by simpa using hc 0 (by omega),by simpa using hc 1 (by omega),by simpa using hc 2 (by omega),by simpa using hc 3 (by omega),by simpa using hc 4 (by omega),by simpa using hc 5 (by omega),by simpa using hc 6 (by omega),by simpa using hc 7 (by omega)⟩,hs,hn⟩)
  have hspot:0<len→a.spot=none:=fun h0=>by
   have h1:=(hV 0 h0).1.1
   obtain ⟨b,o,sp⟩:=a
   have:=World.cell?_spot h1
   simpa [Addr.add] using this
  have htl:((List.range len).map V).length=len:=by simp
  refine ⟨_,(List.range len).map V,rfl,some a,cap,by rw [htl],by rw [htl];omega,fun t ht=>?_,fun hne=>?_⟩
  ·obtain ⟨k,hk⟩:=List.mem_iff_getElem?.1 ht
   obtain ⟨hk1,rfl⟩:=Za4 hk
   exact (hV k hk1).2
  have h0:0<len:=by
   cases len with
   | zero=>simp at hne
   | succ k=>omega
  have hsp:=hspot h0
  obtain ⟨b,o,sp⟩:=a
  simp at hsp
  subst hsp
  refine ⟨b,o,rfl,?_,fun k t hk=>?_⟩
  ·have:=World.block_lt_of_cell? W _ (hV 0 h0).1.1
   rw [addp,addp] at this
   exact this
  ·obtain ⟨hk1,rfl⟩:=Za4 hk
   have h1:=(hV k hk1).1
   rw [addp,addp,addp,addp,addp,addp,addp,addp,addp] at h1
   exact ⟨by simpa using h1.1,h1.2⟩
end Go.Proofs.YtlnojhhddinjkaaGreat
