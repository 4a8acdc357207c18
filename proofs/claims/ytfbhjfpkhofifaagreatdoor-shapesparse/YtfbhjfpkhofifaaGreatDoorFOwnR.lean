import Derived.Test.YtfbhjfpkhofifaaGreatDoorFIdxA
import Derived.RangeFuncNested
import Derived.OwnWalkIn
import Derived.LoopNIn
import Derived.LoopIn
import Derived.Shelf.RegionOpen
set_option maxHeartbeats 1000000
set_option maxRecDepth 100000
namespace Go.Proofs.YtfbhjfpkhofifaaGreatDoor.Fl
open Go.RowKit Go.Shelf
structure Off (B b:Nat) (w w':World):Prop where
 os:w'.os=w.os
 tape:w'.tape=w.tape
 output:w'.output=w.output
 size:w.heap.size≤w'.heap.size
 block:∀ k,k<B→k≠b→w'.heap[k]?=w.heap[k]?
theorem Off.mono {B B' b:Nat} {x y:World} (h:Off B b x y) (hB:B'≤B):Off B' b x y:=⟨h.os,h.tape,h.output,h.size,fun i hi hb=>h.block i (by omega) hb⟩
theorem Off.below {B b n:Nat} {x y:World} (h:Off B b x y) (hn:n≤B) (hb:n≤b):Below n x y:=⟨h.os,h.tape,h.output,h.size,fun i hi=>h.block i (by omega) (by omega)⟩
theorem Zn8 {B b:Nat} {x y:World} (h:Below B x y):Off B b x y:=⟨h.os,h.tape,h.output,h.size,fun i hi _=>h.block i hi⟩
theorem Zdj {B b:Nat} (w:World) (l:Nat) (o:Obj) (h:B≤l):Off B b w (w.putObj l o):=⟨rfl,rfl,rfl,by simp,fun k hk _=>World.putObj_heap_other (by omega)⟩
theorem off_set {B b:Nat} (w:World) (o:Nat) (v:Value):Off B b w (w.setCell ⟨b,o,none⟩ v):=by
 have h:=(Below.refl b w).setCell (p:=⟨b,o,none⟩) (Nat.le_refl _) v;refine ⟨h.os,h.tape,h.output,h.size,fun k _ hk=>?_⟩;exact Below.heap_setCell _ _ _ _ hk
def cellPost {α:Type} (ks:List Nat) (I Ix:List α→World→Prop) (xs:List α) (W:World):Exit→Act→World→Prop
 | .normal,_,W'=>KeepsOthers W W'∧(∀ k∈ks,W'.heap[k]?=W.heap[k]?)∧I xs W'
 | .ret,_,W'=>KeepsOthers W W'∧Ix xs W'
 | _,_,_=>False
def Zpe {α:Type} (n gf:Nat) (lb:Array Value) (encs:α→Array Value) (b:Nat) (ks:List Nat) (S Sp:List α→Prop) (w:World):Prop :=
 ∀ (l:Nat) (J Jx:List α→World→Prop) (W:World),Bw w W →
   (∀ s A B,J s A→Off W.heap.size b A B→J s B) →
   (∀ pre x W1,J pre W1→YieldAt Fence.wide (n - 1) Tryz.prog l (encs x) W1 fun e W' =>
    (e=.returned (.bool true)∧J (pre++[x]) W'∧∀ k∈ks,W'.heap[k]?=W1.heap[k]?)∨(e=.returned (.bool false)∧Jx (pre++[x]) W')) →
   J [] W →
   CallsIn Fence.wide n Tryz.prog gf (#[.func (.yield l) #[] #[]]++lb) W fun e W'=>(∃ v,e=.returned v)∧((∃ xs,S xs∧J xs W')∨(∃ pre,Sp pre∧Jx pre W'))
theorem Zlw {α:Type} {n:Nat} {g:Operand} {ps:Array Tmp} {assign body:Code} {Q:Exit→Act→World→Prop} {a:Act} {w:World}
 {gf:Nat} {lb:Array Value} (hg:a.eval g=.func (.func gf) #[] lb) (eg:∀ args w,(callFunc gf args).run Tryz.prog w=.ok (.enter gf args) w)
 {encs:α→Array Value} {b:Nat} {ks:List Nat} {S Sp:List α→Prop} (hseq:Zpe (n - 1) gf lb encs b ks S Sp w) (hps:∀ x,(encs x).size=ps.size)
 (hb:b<w.heap.size) (hks:∀ k∈ks,k<w.heap.size)
 (I Ix:List α→World→Prop) (hI:∀ s A B,I s A→Off w.heap.size b A B→I s B) (hIx:∀ s A B,Ix s A→Off w.heap.size b A B→Ix s B) (h0:I [] w) (a₁:α→Act)
 (hassign:∀ (l:Nat) (x:α) (W:World) (K:Act→World→Prop),K (a₁ x) W →
  assign.wpIn (Fence.wide.inRound l) (n - 1 - 1) Tryz.prog (Exit.then K (fun _ _ _=>False)) { tmps:=(ps.zip (encs x)).foldl (fun t (p,v)=>t.setIfInBounds p v) a.tmps,defers:=[] } W)
 (hbody:∀ (l:Nat) (pre:List α) (x:α) (W:World),I pre W→body.wpIn (Fence.wide.inRound l) (n - 1 - 1) Tryz.prog (cellPost ks I Ix (pre++[x]) W) (a₁ x) W)
 (hdone:∀ (D:Nat) (xs:List α) (W:World),w.heap.size≤D→S xs→I xs W→W.heap[D]?=some (.deferred (some []))→Q .normal { a with defers:={ target:=.collected D,args:=#[] }::a.defers } W)
 (hstop:∀ (D:Nat) (pre:List α) (W:World),w.heap.size≤D→Sp pre→Ix pre W→W.heap[D]?=some (.deferred (some []))→Code.ret.wpIn Fence.wide n Tryz.prog Q { a with defers:={ target:=.collected D,args:=#[] }::a.defers } W) :
 (Code.rangeFunc g ps assign body).wpIn Fence.wide n Tryz.prog Q a w:=by
 apply wpIn_rangeFunc;intro fn hfn
 -- the two blocks that the statement lays: D for deferred calls,L for the loop's record
 let D:=w.heap.size
 let L:=w.heap.size+1
 let R:LoopState→Option Code→Loop:=fun st pe=>{ state:=st,pending:=pe,fn:=fn,tmps:=a.tmps,params:=ps,assign:=assign,body:=body,defers:=D }
 let W1:=(w.alloc (.deferred (some []))).alloc (.loop (R .ready none))
 have sz1:W1.heap.size=w.heap.size+2:=by simp [W1]
 have lay1:W1.heap[L]?=some (.loop (R .ready none)):=by
  have:=World.alloc_heap_new (w.alloc (.deferred (some []))) (.loop (R .ready none))
  rwa [World.size_alloc] at this
 have layD:W1.heap[D]?=some (.deferred (some [])):=(Below.heap_alloc _ _ _ (by simp [D])).trans (World.alloc_heap_new w _);have bel1:Bw w W1:=((Below.refl _ w).alloc (Nat.le_refl _) _).alloc (by simp) _;have I1:I [] W1:=hI _ _ _ h0 (Zn8 bel1);refine ⟨L,[{ target:=.collected D,args:=#[] }],W1,{ target:=.fn (.func gf) lb,args:=#[.func (.yield L) #[] #[]] },W1,gf,#[.func (.yield L) #[] #[]]++lb,W1,run_enterLoop_outer _ _ _ _ _,?_,fun _ _=>trivial,?_,(fun h=>by cases h),?_⟩
 ·simp only [resolve,hg];simp [go_sem]
 ·simp [invoke,go_sem,eg]
 ·-- what stands while the iterator runs: the caller's word,and the two blocks
  refine (hseq L (fun pre W=>I pre W∧W.heap[L]?=some (.loop (R .ready none))∧W.heap[D]?=some (.deferred (some [])))
   (fun pre W=>Ix pre W∧W.heap[L]?=some (.loop (R .done (some .ret)))∧W.heap[D]?=some (.deferred (some []))) W1 bel1 ?_ ?_ ⟨I1,lay1,layD⟩).mono ?_
  ·rintro s A B ⟨hi,hl,hd⟩ ho;have e1:=ho.block L (by rw [sz1];simp [L]) (by simp only [L];omega);have e2:=ho.block D (by rw [sz1];simp [D]) (by simp only [D];omega);exact ⟨hI _ _ _ hi (ho.mono (by rw [sz1];omega)),e1.trans hl,e2.trans hd⟩
  ·-- one round
   rintro pre x W ⟨hi,hl,hd⟩;have hLW:L<W.heap.size:=(Array.getElem?_eq_some_iff.1 hl).1;have hy:=run_yield (P:=Tryz.prog) (args:=encs x) hl (hps x);refine ⟨fn,_,assign,body,hy,roundIn_of_wpIn hfn (hassign _ x W _ ⟨_,run_beginRound hl rfl,?_⟩)⟩;have lb2:(W.putObj L (.loop { R .ready none with state:=.busy })).heap[L]?=some (.loop { R .ready none with state:=.busy }):=World.putObj_heap_same hLW;have ld2:(W.putObj L (.loop { R .ready none with state:=.busy })).heap[D]?=some (.deferred (some [])):=(World.putObj_heap_other (by simp only [D,L];omega)).trans hd;have hi2:I pre (W.putObj L (.loop { R .ready none with state:=.busy })):=hI _ _ _ hi (Zdj W L _ (by simp only [L];omega));have hk2:∀ k∈ks,(W.putObj L (.loop { R .ready none with state:=.busy })).heap[k]?=W.heap[k]?:=fun k hk=>World.putObj_heap_other (by have:=hks k hk;simp only [L];omega);refine wpIn_mono (hbody L pre x _ hi2) ?_;intro e a3 W3 hp
   cases e with
   | normal =>
     obtain ⟨ko,kk,hi3⟩:=hp;have l3:=ko.same _ _ lb2 rfl;refine ⟨_,_,run_endRound none l3,.inl ⟨rfl,⟨hI _ _ _ hi3 (Zdj W3 L _ (by simp only [L];omega)),World.putObj_heap_same (Array.getElem?_eq_some_iff.1 l3).1,(World.putObj_heap_other (by simp only [D,L];omega)).trans (ko.same _ _ ld2 rfl)⟩,fun k hk=>?_⟩⟩;exact (World.putObj_heap_other (by have:=hks k hk;simp only [L];omega)).trans ((kk k hk).trans (hk2 k hk))
   | ret =>
     obtain ⟨ko,hi3⟩:=hp;have l3:=ko.same _ _ lb2 rfl;exact ⟨_,_,run_endRound (some .ret) l3,.inr ⟨rfl,hIx _ _ _ hi3 (Zdj W3 L _ (by simp only [L];omega)),World.putObj_heap_same (Array.getElem?_eq_some_iff.1 l3).1,(World.putObj_heap_other (by simp only [D,L];omega)).trans (ko.same _ _ ld2 rfl)⟩⟩
   | exit id=>exact hp.elim
   | goto t=>exact hp.elim
   | panic ch=>exact hp.elim
   | outgrown=>exact hp.elim
  ·-- behind the iterator
   rintro e W2 ⟨⟨v,rfl⟩,(⟨xs,hS,hi,hl,hd⟩|⟨pre,hSp,hi,hl,hd⟩)⟩
   ·exact ⟨none,_,run_endLoop hl (by simp [R]),hdone D xs _ (Nat.le_refl _) hS (hI _ _ _ hi (Zdj W2 L _ (by simp only [L];omega))) ((World.putObj_heap_other (by simp only [D,L];omega)).trans hd)⟩
   ·exact ⟨some .ret,_,run_endLoop hl (by simp [R]),hstop D pre _ (Nat.le_refl _) hSp (hIx _ _ _ hi (Zdj W2 L _ (by simp only [L];omega))) ((World.putObj_heap_other (by simp only [D,L];omega)).trans hd)⟩
attribute [local go_sem] Oper.semAt_some
theorem Xs:∀ (l:List UInt8),Lib.indexByte l 32=-1→(32:UInt8) ∉ l
 | [],_=>by simp
 | b::l,h=>by
   unfold Lib.indexByte at h
   split at h
   ·simp at h
   ·rename_i hb
    split at h
    ·rename_i hc
     have:=Xs l (by simpa using hc);simp at hb;simp [this];exact fun e=>hb e.symm
    ·rename_i hc
     exfalso;have:-1≤Lib.indexByte l 32:=indexByte_low l;simp at hc;omega
where
 indexByte_low:∀ l:List UInt8,-1≤Lib.indexByte l 32
  | []=>by simp [Lib.indexByte]
  | b::l=>by
    have:=indexByte_low l;unfold Lib.indexByte
    split
    ·omega
    ·split <;> omega
theorem X7:∀ (l:List UInt8),Lib.indexByte l 32≠-1→∃ a b,l=a++32::b∧(32:UInt8) ∉ a∧Lib.indexByte l 32=(a.length:Int)
 | [],h=>by simp [Lib.indexByte] at h
 | c::l,h=>by
   by_cases hc:c=32
   ·subst hc;exact ⟨[],l,rfl,by simp,by simp [Lib.indexByte]⟩
   ·have hcb:(c == 32)=false:=by simpa using hc
    have e:Lib.indexByte (c::l) 32=if Lib.indexByte l 32 == -1 then -1 else Lib.indexByte l 32+1:=by rw [Lib.indexByte,hcb];rfl
    rw [e] at h ⊢;by_cases hl:Lib.indexByte l 32=-1
    ·rw [hl] at h;simp at h
    ·obtain ⟨a,b,rfl,ha,hx⟩:=X7 l hl;refine ⟨c::a,b,rfl,by simp [ha];exact fun e=>hc e.symm,?_⟩;have:(Lib.indexByte (a++32::b) 32 == -1)=false:=by simpa using hl
     rw [this,hx];simp
def Zpf (bp b bv:Nat) (w:World) (rest:ByteArray):Prop :=
 w.heap[bp]?=some (.cells #[.string ⟨#[32]⟩] 9 (0,0))∧w.heap[b]?=some (.cells #[.string rest] 9 (0,0))∧w.heap[bv]?=some (.cells #[.int .i64 0] 3 (0,0))
def Znb (b:Nat) (w:World):Nat:=match w.cell? ⟨b,0,none⟩ with
 | some (.string s)=>s.size
 | _=>0
theorem Z7 {w:World} {b:Nat} {v:Value} {t:TypeId} (h:w.heap[b]?=some (.cells #[v] t (0,0))):w.cell? ⟨b,0,none⟩=some v:=by
 rw [cell_of_row w b 0 _ t (0,0) h];rfl
theorem Jp {w:World} {b:Nat} {v:Value} {t:TypeId} (h:w.heap[b]?=some (.cells #[v] t (0,0))):w.frozen? ⟨b,0,none⟩=false:=by
 simp [World.frozen?,h]
theorem Zay {w:World} {b:Nat} {v u:Value} {t:TypeId} (h:w.heap[b]?=some (.cells #[v] t (0,0))):(w.setCell ⟨b,0,none⟩ u).heap[b]?=some (.cells #[u] t (0,0)):=by
 simp only [World.setCell,Array.getElem?_modify,h,if_true]
 rfl
theorem Zoy (s:ByteArray) (k:Nat):s.extract 0 k=⟨(s.data.toList.take k).toArray⟩:=by
 apply Ze3;simp [ByteArray.data_extract]
theorem cut_rest (s:ByteArray) (k:Nat):s.extract k s.size=⟨(s.data.toList.drop k).toArray⟩:=by
 apply Ze3;simp [ByteArray.data_extract];exact List.take_of_length_le (by simp)
theorem split_in (n:Nat) (s:ByteArray) (hs:s.size≤9223372036854775800) (w:World) (bp b bv:Nat) (hbp:bp≠b) (hbv:bv≠b) (hlp:bp<w.heap.size) (hl:b<w.heap.size) (hlv:bv<w.heap.size) (hbox:Zpf bp b bv w s) :
 Zpe n 218 #[.pointer (some ⟨bp,0,none⟩),.pointer (some ⟨b,0,none⟩),.pointer (some ⟨bv,0,none⟩)] (fun x=>#[txtV x]) b [bp,b,bv] (fun xs=>xs=toks s.data.toList) (fun pre=>pre <+: toks s.data.toList) w:=by
 intro l J Jx W hW hJ hY h0;have hB0:Zpf bp b bv W s:=⟨(hW.block _ hlp).trans hbox.1,(hW.block _ hl).trans hbox.2.1,(hW.block _ hlv).trans hbox.2.2⟩;have HX:Hid (∀ (s:ByteArray) (w:World),_):=index_any;have hc1:=Z7 hB0.1;have hc2:=Z7 hB0.2.1;have hc3:=Z7 hB0.2.2;refine callsIn_of_wp Tryz.func218 rfl trivial ?_ rfl;simp only [Tryz.ntmps218,List.size_toArray,List.length_cons,List.length_nil,Nat.reduceAdd,Nat.reduceSub,Array.replicate_succ,Array.replicate_zero,List.push_toArray,List.append_toArray,List.nil_append,List.cons_append]
 gi_wp2
 gi_loopw [7] (fun _ wr=>∃ (pre:List (List UInt8)) (rest:ByteArray),Hid (toks s.data.toList=pre++toks rest.data.toList)∧rest.size≤s.size∧Zpf bp b bv wr rest∧J pre wr) (fun _ wr=>Znb b wr)
 case atStart=>exact ⟨[],s,rfl,Nat.le_refl _,hB0,h0⟩
 case round =>
  obtain ⟨pre,rest,hT,hrs,hbx,hj⟩:=hrel;clear hc1 hc2 hc3 hB0 h0;have hc1:=Z7 hbx.1;have hc2:=Z7 hbx.2.1;have hc3:=Z7 hbx.2.2;have hf2:=Jp hbx.2.1;have HI:Hid (∀ w:World,_):=HX.out rest;by_cases hx:Lib.indexByte rest.data.toList 32=-1
  ·have ht:toks rest.data.toList=[rest.data.toList]:=Zfg _ (Xs _ hx);rw [hx] at HI;obtain ⟨fn,tmps,assign,body,hy,hR⟩:=hY pre rest.data.toList wr hj;rw [show txtV rest.data.toList=.string rest from rfl] at hy;have hall:toks s.data.toList=pre++[rest.data.toList]:=by rw [hT.out,ht]
   clear hT HX ht hx hY hJ
   gi_wp2
   refine ⟨trivial,(fun h=>by cases h),?_⟩;refine (callsIn_wide.2 (HI.out _)).mono ?_;rintro e w' ⟨rfl,he⟩;subst w'
   gi_wp2
   refine ⟨(fun h=>by cases h),hR.mono ?_⟩;rintro e W3 (⟨rfl,hJ3,_⟩|⟨rfl,hJx3⟩)
   ·gi_wp2
    go_end0
    exact ⟨⟨_,rfl⟩,.inl ⟨_,rfl,by rw [hall];exact hJ3⟩⟩
   ·gi_wp2
    go_end0
    exact ⟨⟨_,rfl⟩,.inr ⟨_,by rw [hall];exact List.prefix_refl _,hJx3⟩⟩
  ·obtain ⟨a,c,hac,ha,hix⟩:=X7 _ hx;rw [hix] at HI;have hsz:rest.size=a.length+1+c.length:=by
    have:rest.data.toList.length=rest.size:=by simp
    rw [← this,hac];simp;omega
   have e1:rest.extract 0 a.length=⟨a.toArray⟩:=by rw [Zoy,hac];simp
   have e2:rest.extract (a.length+1) rest.size=⟨c.toArray⟩:=by
    rw [cut_rest,hac,show a++32::c=(a++[32])++c by simp,List.drop_left' (by simp)]
   rw [hsz] at e2;have ht:toks rest.data.toList=a::toks c:=by rw [hac];exact Zfh a c ha
   have hal:a.length+1≤rest.size:=by omega
   obtain ⟨fn,tmps,assign,body,hy,hR⟩:=hY pre a wr hj;rw [show txtV a=.string ⟨a.toArray⟩ from rfl] at hy;have hall:toks s.data.toList=(pre++[a])++toks c:=by rw [hT.out,ht];simp
   clear hT HX ht hx hY hac ha hix
   gi_wp2
   refine ⟨trivial,(fun h=>by cases h),?_⟩;refine (callsIn_wide.2 (HI.out _)).mono ?_;rintro e w' ⟨rfl,he⟩;subst w'
   gi_wp2
   refine ⟨(fun h=>by cases h),hR.mono ?_⟩;rintro e W3 (⟨rfl,hJ3,hk3⟩|⟨rfl,hJx3⟩)
   ·have hb3:Zpf bp b bv W3 rest:=⟨(hk3 bp (by simp)).trans hbx.1,(hk3 b (by simp)).trans hbx.2.1,(hk3 bv (by simp)).trans hbx.2.2⟩;have hd1:=Z7 hb3.1;have hd2:=Z7 hb3.2.1;have hd3:=Z7 hb3.2.2;have hg2:=Jp hb3.2.1
    gi_wp2
    have hst:Znb b wr=rest.size:=by simp [Znb,hc2]
    go_roundw
    case rel =>
     refine ⟨pre++[a],⟨c.toArray⟩,hall,by rw [Zlb];omega,⟨?_,?_,?_⟩,hJ _ _ _ hJ3 (off_set _ _ _)⟩
     ·exact (Below.heap_setCell _ _ _ _ hbp).trans hb3.1
     ·exact Zay hb3.2.1
     ·exact (Below.heap_setCell _ _ _ _ hbv).trans hb3.2.2
    case measure =>
     rw [hst];have:Znb b (W3.setCell ⟨b,0,none⟩ (.string ⟨c.toArray⟩))=c.length:=by simp [Znb,Z7 (Zay hb3.2.1 (u:=.string ⟨c.toArray⟩)),Zlb]
     rw [this];omega
   ·gi_wp2
    refine bodyPost_ret (results_none rfl _ _ _) rfl ?_;exact ⟨⟨_,rfl⟩,.inr ⟨_,by rw [hall];exact List.prefix_append _ _,hJx3⟩⟩
attribute [local go_sem] Oper.semAt_some
def stepT (kn f:Int) (t:List UInt8):Option Int:=if bits .and .i64 (Xj t) kn≤f then none else some (bits .or .i64 f (bits .and .i64 (Xj t) kn))
def runT (kn:Int):List (List UInt8)→Int→Option Int
 | [],f=>some f
 | t::ts,f=>(stepT kn f t).bind (runT kn ts)
theorem Zfq (kn:Int) (a b:List (List UInt8)) (f:Int):runT kn (a++b) f=(runT kn a f).bind (runT kn b):=by
 induction a generalizing f with
 | nil=>rfl
 | cons t a ih =>
   simp only [List.cons_append,runT]
   cases stepT kn f t with
   | none=>rfl
   | some g=>exact ih g
theorem runT_pre {kn f:Int} {a b:List (List UInt8)} (h:a <+: b) (hn:runT kn a f=none):runT kn b f=none:=by
 obtain ⟨c,rfl⟩:=h;rw [Zfq,hn];rfl
theorem Zgv (s:ByteArray) (w:World):Calls Tryz.prog 211 #[.string s,.string ⟨#[32]⟩,.int .i64 0] w fun e w' =>
 e=.returned (.func (.func 218) #[] #[.pointer (some ⟨w.heap.size+1,0,none⟩),.pointer (some ⟨w.heap.size,0,none⟩),.pointer (some ⟨w.heap.size+1+1,0,none⟩)]) ∧
  w'=((w.alloc (.cells #[.string s] 9)).alloc (.cells #[.string ⟨#[32]⟩] 9)).alloc (.cells #[.int .i64 0] 3):=by
 go_enter Tryz.func211,Tryz.ntmps211;go_wp2;go_ret
 exact ⟨rfl,rfl⟩
theorem Zia (s:ByteArray) (w:World):Calls Tryz.prog 205 #[.string s,.string ⟨#[32]⟩] w fun e w' =>
 e=.returned (.func (.func 218) #[] #[.pointer (some ⟨w.heap.size+1,0,none⟩),.pointer (some ⟨w.heap.size,0,none⟩),.pointer (some ⟨w.heap.size+1+1,0,none⟩)]) ∧
  w'=((w.alloc (.cells #[.string s] 9)).alloc (.cells #[.string ⟨#[32]⟩] 9)).alloc (.cells #[.int .i64 0] 3):=by
 have HS:Hid (∀ w:World,_):=Zgv s;go_enter Tryz.func205,Tryz.ntmps205;go_wp2_with (go_at_call 211;refine (HS.out _).mono ?_;rintro e w1 ⟨rfl,rfl⟩)
 go_ret
 exact ⟨rfl,rfl⟩
structure Rd (kn:Int) (w:World) (f r:Int) (x:Int) (W:World):Prop where
 known:W.heap[w.heap.size]?=some (.cells #[.int .i64 kn] 3 (0,0))
 res:W.heap[w.heap.size+1]?=some (.cells #[.int .i64 r] 3 (0,0))
 err:W.heap[w.heap.size+1+1]?=some (.cells #[.int .i64 x] 27 (0,0))
 flags:W.heap[w.heap.size+1+1+1]?=some (.cells #[.int .i64 f] 3 (0,0))
 bel:Bw w W
theorem Rd.off {kn:Int} {w:World} {f r x:Int} {A B:World} (h:Rd kn w f r x A) (ho:Off (w.heap.size+7) (w.heap.size+4) A B):Rd kn w f r x B :=
 ⟨(ho.block _ (by omega) (by omega)).trans h.known,(ho.block _ (by omega) (by omega)).trans h.res,(ho.block _ (by omega) (by omega)).trans h.err,(ho.block _ (by omega) (by omega)).trans h.flags,h.bel.trans (ho.below (by omega) (by omega))⟩
theorem WordsIn.same {w w':World} (h:WordsIn w) (e:w'.heap=w.heap):WordsIn w' :=
 ⟨by rw [e];exact h.1,fun i t ht=>by
  have:=h.2 i t ht;unfold World.cell? at this ⊢;rw [e];exact this⟩
def seven (w:World) (s:ByteArray) (kn:Int):World:=(((((((w.alloc (.cells #[.int .i64 kn] 3)).alloc (.cells #[.int .i64 0] 3)).alloc (.cells #[.int .i64 0] 27)).alloc (.cells #[.int .i64 0] 3)).alloc (.cells #[.string s] 9)).alloc (.cells #[.string ⟨#[32]⟩] 9)).alloc (.cells #[.int .i64 0] 3))
theorem Zlp (w:World) (s:ByteArray) (kn:Int):(seven w s kn).heap.size=w.heap.size+7:=by simp [seven]
theorem Zim (w:World) (s:ByteArray) (kn:Int):Bw w (seven w s kn) :=
 (((((((Below.refl _ w).alloc (Nat.le_refl _) _).alloc (by simp) _).alloc (by simp;omega) _).alloc (by simp;omega) _).alloc (by simp;omega) _).alloc (by simp;omega) _).alloc (by simp;omega) _
theorem seven_at (w:World) (s:ByteArray) (kn:Int):Rd kn w 0 0 0 (seven w s kn)∧Zpf (w.heap.size+5) (w.heap.size+4) (w.heap.size+6) (seven w s kn) s:=by
 have step:∀ (v:World) (o o':Obj) (k:Nat),v.heap[k]?=some o→(v.alloc o').heap[k]?=some o:=fun v o o' k hk=>(Below.heap_alloc v o' k (Array.getElem?_eq_some_iff.1 hk).1).trans hk;have new:∀ (v:World) (o:Obj) (k:Nat),v.heap.size=k→(v.alloc o).heap[k]?=some o:=fun v o k hk=>by subst hk;exact World.alloc_heap_new v o
 unfold seven;refine ⟨⟨?_,?_,?_,?_,Zim w s kn⟩,?_,?_,?_⟩
 ·exact step _ _ _ _ (step _ _ _ _ (step _ _ _ _ (step _ _ _ _ (step _ _ _ _ (step _ _ _ _ (new _ _ _ rfl))))))
 ·exact step _ _ _ _ (step _ _ _ _ (step _ _ _ _ (step _ _ _ _ (step _ _ _ _ (new _ _ _ (by simp))))))
 ·exact step _ _ _ _ (step _ _ _ _ (step _ _ _ _ (step _ _ _ _ (new _ _ _ (by simp)))))
 ·exact step _ _ _ _ (step _ _ _ _ (step _ _ _ _ (new _ _ _ (by simp))))
 ·exact step _ _ _ _ (new _ _ _ (by simp))
 ·exact step _ _ _ _ (step _ _ _ _ (new _ _ _ (by simp)))
 ·exact new _ _ _ (by simp)
theorem Zbw {kn f:Int} {t:List UInt8} (h:bits .and .i64 (Xj t) kn≤f):stepT kn f t=none:=by rw [stepT,if_pos h]
theorem Zej {kn f:Int} {t:List UInt8} (h:¬ bits .and .i64 (Xj t) kn≤f):stepT kn f t=some (bits .or .i64 f (bits .and .i64 (Xj t) kn)):=by rw [stepT,if_neg h]
theorem rd_bad {kn f:Int} {w W:World} {x:List UInt8} {pre:List (List UInt8)} (hf:runT kn pre 0=some f) (rd:Rd kn w f 0 0 W) (hle:bits .and .i64 (Xj x) kn≤f) :
 KeepsOthers W ((W.setCell ⟨w.heap.size+1,0,none⟩ (.int .i64 0)).setCell ⟨w.heap.size+1+1,0,none⟩ (.int .i64 4)).drew ∧
  (Hid (runT kn (pre++[x]) 0=none)∧∃ f,Rd kn w f 0 4 ((W.setCell ⟨w.heap.size+1,0,none⟩ (.int .i64 0)).setCell ⟨w.heap.size+1+1,0,none⟩ (.int .i64 4)).drew):=by
 refine ⟨((KeepsOthers.setCell _ _ _).trans (KeepsOthers.setCell _ _ _)).trans (KeepsOthers.drew _),?_,f,?_,?_,?_,?_,?_⟩
 ·rw [Hid,Zfq,hf];show (stepT kn f x).bind _=none;rw [Zbw hle];rfl
 ·exact (Below.heap_setCell _ _ _ _ (by simp;omega)).trans ((Below.heap_setCell _ _ _ _ (by simp)).trans rd.known)
 ·exact (Below.heap_setCell _ _ _ _ (by simp)).trans (Zay rd.res)
 ·exact Zay ((Below.heap_setCell _ _ _ _ (by simp)).trans rd.err)
 ·exact (Below.heap_setCell _ _ _ _ (by simp)).trans ((Below.heap_setCell _ _ _ _ (by simp;omega)).trans rd.flags)
 ·exact ((rd.bel.setCell (p:=⟨w.heap.size+1,0,none⟩) (by simp) _).setCell (p:=⟨w.heap.size+1+1,0,none⟩) (by simp;omega) _).drew
theorem rd_good {kn f:Int} {w W:World} {x:List UInt8} {pre:List (List UInt8)} (hf:runT kn pre 0=some f) (rd:Rd kn w f 0 0 W) (hlt:f<bits .and .i64 (Xj x) kn) :
 KeepsOthers W (W.setCell ⟨w.heap.size+1+1+1,0,none⟩ (.int .i64 (bits .or .i64 f (bits .and .i64 (Xj x) kn)))).drew ∧
  (∀ k∈[w.heap.size+5,w.heap.size+4,w.heap.size+6],(W.setCell ⟨w.heap.size+1+1+1,0,none⟩ (.int .i64 (bits .or .i64 f (bits .and .i64 (Xj x) kn)))).drew.heap[k]?=W.heap[k]?) ∧
  ∃ f',Hid (runT kn (pre++[x]) 0=some f')∧Rd kn w f' 0 0 (W.setCell ⟨w.heap.size+1+1+1,0,none⟩ (.int .i64 (bits .or .i64 f (bits .and .i64 (Xj x) kn)))).drew:=by
 refine ⟨(KeepsOthers.setCell _ _ _).trans (KeepsOthers.drew _),?_,bits .or .i64 f (bits .and .i64 (Xj x) kn),?_,?_,?_,?_,?_,?_⟩
 ·intro k hk;exact Below.heap_setCell _ _ _ _ (by simp at hk;show k≠w.heap.size+1+1+1;omega)
 ·rw [Hid,Zfq,hf];show (stepT kn f x).bind _=_;rw [Zej (by omega)];rfl
 ·exact (Below.heap_setCell _ _ _ _ (by simp;omega)).trans rd.known
 ·exact (Below.heap_setCell _ _ _ _ (by simp)).trans rd.res
 ·exact (Below.heap_setCell _ _ _ _ (by simp)).trans rd.err
 ·exact Zay rd.flags
 ·exact (rd.bel.setCell (p:=⟨w.heap.size+1+1+1,0,none⟩) (by simp;omega) _).drew
theorem Jg (s:ByteArray) (hs:s.size≤9223372036854775800) (kn:Int) (hne:s.toList.isEmpty=false) (w:World) (h:WordsIn w) :
 CallsIn Fence.wide 9 Tryz.prog 197 #[.string s,.int .i64 kn] w fun e w'=>e=.returned (.tuple #[.int .i64 ((runT kn (toks s.data.toList) 0).getD 0),.int .i64 (if (runT kn (toks s.data.toList) 0).isSome then 0 else 4)])∧Bw w w':=by
 have HG:Hid (∀ f,runT kn (toks s.data.toList) 0=some f→(runT kn (toks s.data.toList) 0).getD 0=f∧(if (runT kn (toks s.data.toList) 0).isSome then (0:Int) else 4)=0):=fun f e=>by rw [e];exact ⟨rfl,rfl⟩
 have HB:Hid (runT kn (toks s.data.toList) 0=none→(runT kn (toks s.data.toList) 0).getD 0=0∧(if (runT kn (toks s.data.toList) 0).isSome then (0:Int) else 4)=4):=fun e=>by rw [e];exact ⟨rfl,rfl⟩
 generalize (runT kn (toks s.data.toList) 0).getD 0=G at HG HB ⊢;generalize (if (runT kn (toks s.data.toList) 0).isSome then (0:Int) else 4)=X at HG HB ⊢;have HS:Hid (∀ w:World,_):=Zia s;have HF:Hid (∀ (t:List UInt8) (w1:World),Bw w w1→Calls Tryz.prog 206 #[.string ⟨t.toArray⟩] w1 fun e w'=>e=.returned (.int .i64 (Xj t))∧w'=w1):=fun t w1 hb=>Ze2 ⟨t.toArray⟩ w1 (h.keep hb);refine callsIn_of_wp_marks Tryz.func197 rfl trivial ?_ rfl;simp only [Tryz.ntmps197,List.size_toArray,List.length_cons,List.length_nil,Nat.reduceAdd,Nat.reduceSub,Array.replicate_succ,Array.replicate_zero,List.push_toArray,List.append_toArray,List.nil_append,List.cons_append]
 gi_wp2
 refine ⟨trivial,?_⟩;refine (callsIn_wide.2 (HS.out _)).mono ?_;rintro e w' ⟨rfl,rfl⟩
 gi_wp2
 obtain ⟨rd0,bx0⟩:=seven_at w s kn;have hsz:=Zlp w s kn
 refine Zlw (w:=seven w s kn) (gf:=218) (lb:=#[.pointer (some ⟨w.heap.size+5,0,none⟩),.pointer (some ⟨w.heap.size+4,0,none⟩),.pointer (some ⟨w.heap.size+6,0,none⟩)]) rfl (enters_of Tryz.func218 (by kernel_rfl) rfl)
  (split_in 8 s hs (seven w s kn) (w.heap.size+5) (w.heap.size+4) (w.heap.size+6) (by omega) (by omega) (by rw [hsz];omega) (by rw [hsz];omega) (by rw [hsz];omega) bx0) (fun _=>rfl) (by rw [hsz];omega)
  (fun k hk=>by rw [hsz];simp at hk;omega)
  (fun pre W=>∃ f,Hid (runT kn pre 0=some f)∧Rd kn w f 0 0 W) (fun pre W=>Hid (runT kn pre 0=none)∧∃ f,Rd kn w f 0 4 W)
  (fun pre A B ⟨f,hf,hr⟩ ho=>⟨f,hf,hr.off (by rw [hsz] at ho;exact ho)⟩) (fun pre A B ⟨hf,f,hr⟩ ho=>⟨hf,f,hr.off (by rw [hsz] at ho;exact ho)⟩)
  ⟨0,rfl,rd0⟩
  (fun x=>{ tmps:=#[.string s,.int .i64 kn,undef,.pointer (some ⟨w.heap.size,0,none⟩),.pointer (some ⟨w.heap.size+1,0,none⟩),.pointer (some ⟨w.heap.size+1+1,0,none⟩),.pointer (some ⟨w.heap.size+1+1+1,0,none⟩),.string ⟨x.toArray⟩,undef,.string s,.bool false,.string s,
   .func (.func 218) #[] #[.pointer (some ⟨w.heap.size+1+1+1+1+1,0,none⟩),.pointer (some ⟨w.heap.size+1+1+1+1,0,none⟩),.pointer (some ⟨w.heap.size+1+1+1+1+1+1,0,none⟩)],.string ⟨x.toArray⟩,undef,undef,undef,undef,undef,undef,undef,undef,undef,undef,undef],defers:=[] }) ?assign ?body ?done ?stop
 case assign =>
  intro l x W K hK
  gi_wp2
  exact hK
 case body =>
  rintro l pre x W ⟨f,hf,rd⟩;have hWd:WordsIn W:=h.keep rd.bel;have c0:=Z7 rd.known;have c1:=Z7 rd.res;have c2:=Z7 rd.err;have c3:=Z7 rd.flags;have z1:=Jp rd.res;have z2:=Jp rd.err;have z3:=Jp rd.flags;have HX:Hid (Calls Tryz.prog 206 #[.string ⟨x.toArray⟩] W.drew fun e w'=>e=.returned (.int .i64 (Xj x))∧w'=W.drew):=Ze2 ⟨x.toArray⟩ W.drew (hWd.same rfl);clear HF HS;have hmx:Tryz.prog.follows .mixedOrders=true:=by kernel_rfl
  have hfn:Fence.wide.fn 206:=trivial
  gi_wp2
  gi_region_with_o (gi_at_call 206;refine (CallsIn.inRound l (callsIn_wide.2 HX.out)).mono ?_;rintro e w' ⟨rfl,rfl⟩)
  all_goals gi_wp2
  all_goals first|exact rd_bad hf.out rd (by assumption)|exact rd_good hf.out rd (by assumption)
 case done =>
  rintro D ys W hD rfl ⟨f,hf,rd⟩ hK;have c1:=Z7 rd.res;have c2:=Z7 rd.err;have c3:=Z7 rd.flags;have z1:=Jp rd.res;have z2:=Jp rd.err;clear HF HS HB h
  gi_wp2
  obtain ⟨eG,eX⟩:=HG.out f hf.out;rw [hsz] at hD;have hK':=((KeepsOthers.setCell W ⟨w.heap.size+1,0,none⟩ (.int .i64 f)).trans (KeepsOthers.setCell _ ⟨w.heap.size+1+1,0,none⟩ (.int .i64 0))).same D _ hK rfl;have d1:=Z7 ((World.putObj_heap_other (o:=.deferred none) (r:=D) (by omega)).trans ((Below.heap_setCell (W.setCell ⟨w.heap.size+1,0,none⟩ (.int .i64 f)) ⟨w.heap.size+1+1,0,none⟩ (.int .i64 0) _ (by simp)).trans (Zay rd.res (u:=.int .i64 f))));have d2:=Z7 ((World.putObj_heap_other (o:=.deferred none) (r:=D) (by omega)).trans (Zay (u:=.int .i64 0) ((Below.heap_setCell W ⟨w.heap.size+1,0,none⟩ (.int .i64 f) _ (by simp)).trans rd.err)));refine ⟨by simp,.inl ⟨_,_,rfl,run_takeDeferred hK',?_⟩⟩;refine ⟨.tuple #[.int .i64 f,.int .i64 0],?_,by rw [eG,eX],?_⟩
  ·simp [results,Tryz.f197,go_sem,d1,d2]
  ·exact ((rd.bel.setCell (p:=⟨w.heap.size+1,0,none⟩) (by simp) _).setCell (p:=⟨w.heap.size+1+1,0,none⟩) (by simp;omega) _).trans (belowK_b (w:=w) (Nat.le_refl _) _ D _ _ (by omega) hK' rfl rfl)
 case stop =>
  rintro D pre W hD hpre ⟨hf,f,rd⟩ hK;have c1:=Z7 rd.res;have c2:=Z7 rd.err;have hn:=runT_pre hpre hf.out;clear HF HS HG h
  gi_wp2
  obtain ⟨eG,eX⟩:=HB.out hn;rw [hsz] at hD;have d1:=Z7 ((World.putObj_heap_other (o:=.deferred none) (r:=D) (by omega)).trans rd.res);have d2:=Z7 ((World.putObj_heap_other (o:=.deferred none) (r:=D) (by omega)).trans rd.err);refine ⟨by simp,.inl ⟨_,_,rfl,run_takeDeferred hK,?_⟩⟩;refine ⟨.tuple #[.int .i64 0,.int .i64 4],?_,by rw [eG,eX],?_⟩
  ·simp [results,Tryz.f197,go_sem,d1,d2]
  ·exact rd.bel.trans (belowK_b (w:=w) (Nat.le_refl _) _ D _ _ (by omega) hK rfl rfl)
end Go.Proofs.YtfbhjfpkhofifaaGreatDoor.Fl
