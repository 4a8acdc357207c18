import Derived.Test.YtlohdfpinmdljaaGreatDoorChecked
import Derived.WalkKit
import Derived.OwnWalk
import Derived.Deep.OwnRows
import Derived.IntWalk
import Derived.Lib.SmallJoins
import Derived.Laws.MakeOwn
import Derived.Deep.AppendLies
import Derived.Deep.RegionLaw
import Derived.Deep.RegionWith
import Derived.Deep.DeepCutAuto
import Derived.Deep.QuietTactic
import Derived.BigQuiet
import Derived.Lib.SliceRun
import Derived.Shelf.RegionOpen
import Derived.Maps.AppendAt
set_option maxRecDepth 100000
namespace Go.Proofs.YtlohdfpinmdljaaGreatDoor.Sk
open Go.RowKit Go.Maps
theorem Below.step {w w1 w2:World} (h1:Below w.heap.size w w1) (h2:Below w1.heap.size w1 w2):Below w.heap.size w w2:=h1.trans (h2.mono h1.size)
theorem halloc1 (w:World) (o:Obj):(w.alloc o).heap[w.heap.size]?=some o:=by unfold World.alloc;simp
theorem halloc2 (w:World) {n:Nat} (o:Obj) (hn:w.heap.size=n):(w.alloc o).heap[n]?=some o:=by subst hn;exact halloc1 w o
theorem ownv {w:World} {base:Nat} {e:TypeId} {k:Nat} {v:Value} {n:Nat} {xs:List Value} (h:w.ownsRow base e k v n xs):∃ a c,v=.slice a n c:=by
  rcases h.2 with ⟨rfl,h2⟩|⟨g,cap,cur,rfl,_⟩
  · have:n=0:=by first|exact h2|exact h2.1|(simp at h2;omega)
    subst this;exact ⟨none,0,rfl⟩
  · exact ⟨_,cap,rfl⟩
theorem hkeep {w:World} {n:Nat} {x o:Obj} (h:w.heap[n]?=some x):(w.alloc o).heap[n]?=some x:=by
  have hb:Below w.heap.size w (w.alloc o):=(Below.refl _ w).alloc (Nat.le_refl _) _
  exact (hb.block n (Array.getElem?_eq_some_iff.1 h).1).trans h
theorem wp_region_class {P:Program} {C:World→Prop} {id:Nat} {Q:Exit→Act→World→Prop} {a:Act} {w:World} {l:List Oper} (hm:P.follows .mixedOrders=true) (hB:Region.lexB .any l.toArray=true) (hC:C { w with drawn:=w.drawn+1 })
    (h:wpQuiet P l.toArray C (fun a'=>∀ w',C w'→Q .normal a' w') l a):(Code.region id l.toArray true).wp P Q a w :=
  wp_region_quiet (C:=C) hm hB hC (by simpa using h)
theorem class_of' (C:World→Prop) (h:∃ w,C w):∃ (σ:Type) (V:σ→World),Nonempty σ∧Hid (∀ s,C (V s))∧Hid (∀ w,C w→∃ s,w=V s) :=
  ⟨{w // C w},Subtype.val,h.elim fun w hw=>⟨⟨w,hw⟩⟩,fun s=>s.2,fun w hw=>⟨⟨w,hw⟩,rfl⟩⟩
theorem step_call1 {P:Program} {ops:Array Oper} {o:Oper} {a:Act} {w:World} {K:Act→World→Prop} {Q:Exit→Act→World→Prop} {E:Prop} (hg:o.guard=none) (f:Nat) (hf:∀ (vs:Array Value) (w:World),(callFunc f vs).run P w=.ok (.enter f vs) w) (x:Operand) (t:TypeId)
    (hop:o.op=Op.call { callee:=Callee.value (Operand.func f),args:=#[x],argTypes:=#[t] }) {R:Ending→World→Prop} (v:Value) (hv:a.eval x=v) (h:Calls P f #[v] w R) (hR:∀ e w',R e w'→∃ u,e=.returned u∧K (a.put o.dst u) w') :
    if Region.wanted o (yielded ops a.tmps)=true then Oper.wp P o a w K Q else E:=by
  have hw:Region.wanted o (yielded ops a.tmps)=true:=by simp [Region.wanted,hg]
  rw [if_pos hw]
  unfold Oper.wp
  have e:(execOp a.eval o).run P w=.ok (.enter f #[v]) w:=by
    simp [execOp,hop,resolve,invoke,hv]
    simp [go_sem,hf]
  rw [e,Oper.upon_enter]
  exact h.mono (fun e w' hr=>by obtain ⟨u,rfl,hk⟩:=hR e w' hr;exact hk)
theorem step_call2 {P:Program} {ops:Array Oper} {o:Oper} {a:Act} {w:World} {K:Act→World→Prop} {Q:Exit→Act→World→Prop} {E:Prop} (hg:o.guard=none) (f:Nat) (hf:∀ (vs:Array Value) (w:World),(callFunc f vs).run P w=.ok (.enter f vs) w) (x y:Operand) (t1 t2:TypeId)
    (hop:o.op=Op.call { callee:=Callee.value (Operand.func f),args:=#[x,y],argTypes:=#[t1,t2] }) {R:Ending→World→Prop} (v1 v2:Value) (hv1:a.eval x=v1) (hv2:a.eval y=v2) (h:Calls P f #[v1,v2] w R) (hR:∀ e w',R e w'→∃ u,e=.returned u∧K (a.put o.dst u) w') :
    if Region.wanted o (yielded ops a.tmps)=true then Oper.wp P o a w K Q else E:=by
  have hw:Region.wanted o (yielded ops a.tmps)=true:=by simp [Region.wanted,hg]
  rw [if_pos hw]
  unfold Oper.wp
  have e:(execOp a.eval o).run P w=.ok (.enter f #[v1,v2]) w:=by
    simp [execOp,hop,resolve,invoke,hv1,hv2]
    simp [go_sem,hf]
  rw [e,Oper.upon_enter]
  exact h.mono (fun e w' hr=>by obtain ⟨u,rfl,hk⟩:=hR e w' hr;exact hk)
structure Tch (S:Nat→Prop) (W w:World):Prop where
  os:w.os=W.os
  tape:w.tape=W.tape
  output:w.output=W.output
  size:W.heap.size≤w.heap.size
  blk:∀ k,k<W.heap.size→¬ S k→w.heap[k]?=W.heap[k]?
theorem Tch.refl (S:Nat→Prop) (W:World):Tch S W W:=⟨rfl,rfl,rfl,Nat.le_refl _,fun _ _ _=>rfl⟩
theorem Tch.bel {S:Nat→Prop} {W w w':World} (h:Tch S W w) (hb:Below w.heap.size w w'):Tch S W w' :=
  ⟨hb.os.trans h.os,hb.tape.trans h.tape,hb.output.trans h.output,Nat.le_trans h.size hb.size,fun k hk hs=>(hb.block k (Nat.lt_of_lt_of_le hk h.size)).trans (h.blk k hk hs)⟩
theorem Tch.alloc {S:Nat→Prop} {W w:World} (h:Tch S W w) (o:Obj):Tch S W (w.alloc o):=h.bel ((Below.refl _ w).alloc (Nat.le_refl _) o)
theorem Tch.drew {S:Nat→Prop} {W w:World} (h:Tch S W w):Tch S W w.drew:=⟨h.os,h.tape,h.output,h.size,h.blk⟩
theorem Tch.set {S:Nat→Prop} {W w:World} (h:Tch S W w) {p:Addr} (hp:S p.block∨W.heap.size≤p.block) (u:Value):Tch S W (w.setCell p u) :=
  ⟨h.os,h.tape,h.output,by simpa [World.setCell] using h.size,fun k hk hs=>(Below.heap_setCell w p u k (by rintro rfl;rcases hp with hp|hp;exact hs hp;omega)).trans (h.blk k hk hs)⟩
theorem Tch.grown {S:Nat→Prop} {W w w':World} {r:Option Nat} (h:Tch S W w) (hg:w.grownBy w' r) (hr:∀ k,r=some k→S k∨W.heap.size≤k):Tch S W w' :=
  ⟨hg.os.trans h.os,hg.tape.trans h.tape,hg.output.trans h.output,Nat.le_trans h.size hg.size,fun k hk hs=>(hg.block k (Nat.lt_of_lt_of_le hk h.size) (fun e=>by rcases hr k e.symm with x|x;exact hs x;omega)).trans (h.blk k hk hs)⟩
theorem Tch.mono {S S':Nat→Prop} {W w:World} (h:Tch S W w) (hs:∀ k,k<W.heap.size→S k→S' k):Tch S' W w:=⟨h.os,h.tape,h.output,h.size,fun k hk hn=>h.blk k hk (fun x=>hn (hs k hk x))⟩
theorem Tch.trans {S S':Nat→Prop} {a b c:World} (h:Tch S a b) (k:Tch S' b c) (hs:∀ k,k<a.heap.size→S' k→S k):Tch S a c :=
  ⟨k.os.trans h.os,k.tape.trans h.tape,k.output.trans h.output,Nat.le_trans h.size k.size,fun i hi hn=>(k.blk i (Nat.lt_of_lt_of_le hi h.size) (fun x=>hn (hs i hi x))).trans (h.blk i hi hn)⟩
theorem Tch.below {S:Nat→Prop} {W w:World} (h:Tch S W w) {N:Nat} (hN:N≤W.heap.size) (hs:∀ k,S k→N≤k):Below N W w :=
  ⟨h.os,h.tape,h.output,h.size,fun k hk=>h.blk k (Nat.lt_of_lt_of_le hk hN) (fun x=>by have:=hs k x;omega)⟩
def gS (S:Nat→Prop) (a b:Nat):Nat→Prop:=fun k=>S k∨(a≤k∧k<b)
theorem own_keep {w w':World} {N e s:Nat} {v:Value} {n:Nat} {xs:List Value} (h:w.ownsRow N e s v n xs) (hk:∀ g,v.ownBlock=some g→w'.heap[g]?=w.heap[g]?):w'.ownsRow N e s v n xs:=by
  refine ⟨h.1,?_⟩
  rcases h.2 with ⟨e,e2⟩|⟨g,cap,cur,rfl,h1,h2,h3⟩
  · exact .inl ⟨e,e2⟩
  · exact .inr ⟨g,cap,cur,rfl,h1,(hk g rfl).trans h2,h3⟩
theorem hkA {w:World} {n:Nat} {x o:Obj} (h:w.heap[n]?=some x):(w.alloc o).heap[n]?=some x:=by
  rw [Below.heap_alloc _ _ _ (Array.getElem?_eq_some_iff.1 h).1];exact h
theorem haA (w:World) {n:Nat} (o:Obj) (hn:w.heap.size=n):(w.alloc o).heap[n]?=some o:=by subst hn;exact halloc1 w o
theorem r1c {w:World} {n:Nat} {t:TypeId} {a0:Value} (h:w.heap[n]?=some (.cells #[a0] t (0,0))):w.cell? ⟨n,0,none⟩=some a0∧(∀ k,w.frozen? ⟨n,k,none⟩=false)∧n<w.heap.size :=
  ⟨(cell_of_row w n 0 _ _ _ h).trans rfl,fun k=>frozen_of_row w n k _ _ h,(Array.getElem?_eq_some_iff.1 h).1⟩
theorem r2c {w:World} {n:Nat} {t:TypeId} {a0 a1:Value} (h:w.heap[n]?=some (.cells #[a0,a1] t (0,0))):w.cell? ⟨n,0,none⟩=some a0∧w.cell? ⟨n,1,none⟩=some a1∧(∀ k,w.frozen? ⟨n,k,none⟩=false)∧n<w.heap.size :=
  ⟨(cell_of_row w n 0 _ _ _ h).trans rfl,(cell_of_row w n 1 _ _ _ h).trans rfl,fun k=>frozen_of_row w n k _ _ h,(Array.getElem?_eq_some_iff.1 h).1⟩
theorem k2c {V w:World} {N n:Nat} {t:TypeId} {a0 a1:Value} (hb:Below N V w) (hn:n<N:=by first|omega|(simp;try omega)) (h:V.heap[n]?=some (.cells #[a0,a1] t (0,0)):=by first|exact Hid.out (by assumption)|exact hkA (Hid.out (by assumption))|exact hkA (hkA (Hid.out (by assumption)))|exact haA _ _ rfl|exact hkA (haA _ _ rfl)|exact hkA (hkA (haA _ _ rfl))|exact haA _ _ (by simp;done)|exact hkA (haA _ _ (by simp;done))):Hid (w.heap[n]?=some (.cells #[a0,a1] t (0,0)))∧w.cell? ⟨n,0,none⟩=some a0∧w.cell? ⟨n,1,none⟩=some a1∧(∀ k,w.frozen? ⟨n,k,none⟩=false)∧n<w.heap.size∧¬ n=w.heap.size:=by
  have h2:=(hb.block n hn).trans h
  obtain ⟨c0,c1,f,l⟩:=r2c h2
  exact ⟨h2,c0,c1,f,l,by omega⟩
theorem r3c {w:World} {n:Nat} {t:TypeId} {a0 a1 a2:Value} (h:w.heap[n]?=some (.cells #[a0,a1,a2] t (0,0))):w.cell? ⟨n,0,none⟩=some a0∧w.cell? ⟨n,1,none⟩=some a1∧w.cell? ⟨n,2,none⟩=some a2∧(∀ k,w.frozen? ⟨n,k,none⟩=false)∧n<w.heap.size :=
  ⟨(cell_of_row w n 0 _ _ _ h).trans rfl,(cell_of_row w n 1 _ _ _ h).trans rfl,(cell_of_row w n 2 _ _ _ h).trans rfl,fun k=>frozen_of_row w n k _ _ h,(Array.getElem?_eq_some_iff.1 h).1⟩
def flatV:List (Bool×Int)→List Value
  | []=>[]
  | v::r=>.bool v.1::.int .i64 v.2::flatV r
theorem flatV_len:∀ vs:List (Bool×Int),(flatV vs).length=vs.length * 2
  | []=>rfl
  | v::r=>by have:=flatV_len r;simp [flatV,this];omega
theorem flatV_at:∀ (vs:List (Bool×Int)) (k:Nat) (v:Bool×Int),vs[k]?=some v→(flatV vs)[k * 2]?=some (.bool v.1)∧(flatV vs)[k * 2+1]?=some (.int .i64 v.2)
  | [],k,v,h=>by simp at h
  | p::r,0,v,h=>by simp at h;subst h;exact ⟨rfl,rfl⟩
  | p::r,k+1,v,h=>by
    have:=flatV_at r k v (by simpa using h)
    rw [show (k+1) * 2=k * 2+2 by omega]
    exact ⟨by simpa [flatV] using this.1,by simpa [flatV] using this.2⟩
theorem flatV_set:∀ (vs:List (Bool×Int)) (k:Nat) (v:Bool×Int),flatV (vs.set k v)=((flatV vs).set (k * 2) (.bool v.1)).set (k * 2+1) (.int .i64 v.2)
  | [],k,v=>by simp [flatV]
  | p::r,0,v=>by simp [flatV]
  | p::r,k+1,v=>by
    rw [List.set_cons_succ,flatV,flatV,flatV_set r k v,show (k+1) * 2=k * 2+1+1 by omega]
    simp
theorem own_type {w:World} {N e s n g:Nat} {v:Value} {xs:List Value} {C:Array Value} {t:Nat} (h:w.ownsRow N e s v n xs) (hg:w.heap[g]?=some (.cells C t (0,0))) (ht:t≠e):v.ownBlock≠some g:=by
  intro hv
  rcases h.2 with ⟨rfl,_⟩|⟨x,cap,cur,rfl,_,h2,_⟩
  · simp [Value.ownBlock] at hv
  · simp [Value.ownBlock] at hv
    subst hv
    rw [hg] at h2
    simp at h2
    exact ht h2.2
theorem own_cut {w:World} {N e s n m:Nat} {a:Option Addr} {cap:Nat} {xs ys:List Value} (h:w.ownsRow N e s (.slice a m cap) m (xs++ys)) (hx:xs.length=n * s) (hn:n≤m):w.ownsRow N e s (.slice a n cap) n xs:=by
  refine ⟨hx,?_⟩
  rcases h.2 with ⟨e1,e2⟩|⟨g,c,cur,e1,h1,h2,h3,h4,h5,h6⟩
  · cases e1
    have:n=0:=by omega
    subst this
    exact .inl ⟨rfl,rfl⟩
  · cases e1
    refine .inr ⟨g,cap,cur,rfl,h1,h2,by omega,h4,h5,?_⟩
    have:(cur.toList.take (m * s)).take (n * s)=xs:=by rw [h6,← hx];simp
    rwa [List.take_take,Nat.min_eq_left (Nat.mul_le_mul_right s hn)] at this
theorem sl_own (a:Option Addr) (m n c:Nat):(Value.slice a m c).ownBlock=(Value.slice a n c).ownBlock:=by cases a <;> rfl
theorem Tryz.hinfoVl:(Tryz.prog.info? 32).map (fun i=>(i.zero,i.size,i.bytes))=some (some (.agg #[.bool false,.int .i64 0]),2,16):=by kernel_rfl
theorem flatV_rep (n:Nat) (k:Nat) (hk:k<n * 2):(flatV (List.replicate n (false,(0:Int))))[k]?=some (if k % 2=0 then .bool false else .int .i64 0):=by
  have hq:k / 2<n:=by omega
  have:=flatV_at (List.replicate n (false,(0:Int))) (k / 2) (false,0) (by simp [hq])
  by_cases h:k % 2=0
  · rw [if_pos h];have e:k=k / 2 * 2:=by omega
    rw [e];simpa using this.1
  · rw [if_neg h];have e:k=k / 2 * 2+1:=by omega
    rw [e];simpa using this.2
theorem mk_vals (n:Nat) (hn:n≤1000000) (w:World):(Instr.makeSlice 143 (.int .i64 (n:Int)) (.int .i64 (n:Int))).run Tryz.prog w=.ok (.slice (some ⟨w.heap.size,0,none⟩) n n) (w.alloc (.cells (flatV (List.replicate n (false,0))).toArray 32)):=by
  obtain ⟨i0,hi,hz0,hz1,hz2⟩:=info_parts Tryz.hinfoVl
  have:=run_make w (P:=Tryz.prog) 143 32 i0 _ Tryz.underlying143 hi hz0 .i64 .i64 (n:Int) (n:Int) (by omega) (Int.le_refl _) (by rw [hz2];omega) (by omega)
  rw [hz1,Int.toNat_natCast] at this
  rw [this]
  have e:madeCells (Value.agg #[.bool false,.int .i64 0]).cells (n * 2)=(flatV (List.replicate n (false,0))).toArray:=by
    apply Array.ext_getElem?
    intro k
    by_cases hk:k<n * 2
    · have e1:(flatV (List.replicate n (false,(0:Int)))).toArray[k]?=some (if k % 2=0 then .bool false else .int .i64 0):=by rw [List.getElem?_toArray];exact flatV_rep n k hk
      rw [e1,Array.getElem?_eq_getElem (by rw [size_madeCells];exact hk)]
      simp only [madeCells,Value.cells]
      have h2:k % 2=0∨k % 2=1:=by omega
      rcases h2 with h2|h2 <;> simp [h2]
    · have e1:(flatV (List.replicate n (false,(0:Int)))).toArray[k]?=none:=by rw [List.getElem?_toArray];exact List.getElem?_eq_none (by rw [flatV_len];simp;omega)
      rw [e1,Array.getElem?_eq_none (by rw [size_madeCells];omega)]
  rw [e]
structure Fr where
  vv:Value
  xs:List (Bool×Int)
  rm:Nat
  lv:Value
  ls:List (Bool×Int)
def Fr.own (f:Fr) (g:Nat):Prop:=f.vv.ownBlock=some g∨f.lv.ownBlock=some g
def frC (k:Bool) (f:Fr):List Value:=match k with
  | true=>[f.vv,.int .i64 (f.rm:Int),f.lv]
  | false=>[f.lv,f.vv,.int .i64 (f.rm:Int)]
theorem frC_len (k:Bool) (f:Fr):(frC k f).length=3:=by cases k <;> rfl
def flatF (k:Bool):List Fr→List Value
  | []=>[]
  | f::r=>flatF k r++frC k f
theorem flatF_len (k:Bool):∀ fs:List Fr,(flatF k fs).length=fs.length * 3
  | []=>rfl
  | f::r=>by have:=flatF_len k r;simp [flatF,frC_len,this];omega
def wdF:List Fr→Nat
  | []=>0
  | f::r=>f.ls.length+f.rm+3+wdF r
theorem wdF_len:∀ fs:List Fr,fs.length * 3≤wdF fs
  | []=>Nat.le_refl _
  | f::r=>by have:=wdF_len r;simp [wdF];omega
def tyS (k:Bool):TypeId:=match k with
  | true=>135
  | false=>9999
def tyF (k:Bool):TypeId:=match k with
  | true=>250
  | false=>9998
def hdC (k:Bool) (fv:Value) (fs:List Fr):Array Value:=match k with
  | true=>#[fv,.int .i64 (wdF fs:Int)]
  | false=>#[fv]
def ApF:List Fr→Prop
  | []=>True
  | f::r=>(∀ g,f.vv.ownBlock=some g→f.lv.ownBlock≠some g)∧(∀ p∈r,∀ g,f.own g→¬ p.own g)∧ApF r
theorem apF_app:∀ {a b:List Fr},ApF (a++b)↔ApF a∧ApF b∧∀ f∈a,∀ p∈b,∀ g,f.own g→¬ p.own g
  | [],b=>by simp [ApF]
  | f::r,b=>by
    have ih:=apF_app (a:=r) (b:=b)
    simp only [List.cons_append,ApF,ih]
    constructor
    · rintro ⟨h1,h2,h3,h4,h5⟩
      refine ⟨⟨h1,fun p hp=>h2 p (List.mem_append.2 (.inl hp)),h3⟩,h4,fun q hq p hp=>?_⟩
      rcases List.mem_cons.1 hq with rfl|hq
      · exact h2 p (List.mem_append.2 (.inr hp))
      · exact h5 q hq p hp
    · rintro ⟨⟨h1,h2,h3⟩,h4,h5⟩
      refine ⟨h1,fun p hp=>?_,h3,h4,fun q hq=>h5 q (List.mem_cons_of_mem _ hq)⟩
      rcases List.mem_append.1 hp with hp|hp
      · exact h2 p hp
      · exact h5 f List.mem_cons_self p hp
structure SkAt (k:Bool) (w:World) (S:Nat→Prop) (sb:Nat) (fv:Value) (fs:List Fr):Prop where
  sz:∀ j,S j→j<w.heap.size
  hS:S sb
  oS:∀ j,fv.ownBlock=some j→S j
  eS:∀ f∈fs,∀ g,f.own g→S g
  hh:w.heap[sb]?=some (.cells (hdC k fv fs) (tyS k) (0,0))
  ow:w.ownsRow 0 (tyF k) 3 fv fs.length (flatF k fs)
  vo:∀ f∈fs,w.ownsRow 0 32 2 f.vv f.xs.length (flatV f.xs)
  lo:∀ f∈fs,w.ownsRow 0 32 2 f.lv f.ls.length (flatV f.ls)
  ap:ApF fs
  bd:∀ f∈fs,f.ls.length≤40∧f.rm≤40∧f.xs.length≤f.rm
  n4:wdF fs≤4000
theorem tyS_F (k:Bool):tyS k≠tyF k:=by cases k <;> decide
theorem tyS_V (k:Bool):tyS k≠32:=by cases k <;> decide
theorem tyF_V (k:Bool):tyF k≠32:=by cases k <;> decide
theorem own_two {w:World} {N M e s e' s' n n' g:Nat} {v v':Value} {xs xs':List Value} (h:w.ownsRow N e s v n xs) (h':w.ownsRow M e' s' v' n' xs') (ht:e≠e') (hg:v.ownBlock=some g):v'.ownBlock≠some g:=by
  rcases h.2 with ⟨e1,_⟩|⟨gg,cap,cur,e1,_,e2,_⟩
  · rw [e1] at hg;simp [Value.ownBlock] at hg
  · rw [e1] at hg;simp [Value.ownBlock] at hg;subst hg
    exact own_type h' e2 ht
theorem SkAt.own_lt {k:Bool} {w:World} {S:Nat→Prop} {sb:Nat} {fv:Value} {fs:List Fr} (h:SkAt k w S sb fv fs) {f:Fr} (hf:f∈fs) {g:Nat} (hg:f.own g):g<w.heap.size:=hg.elim (fun x=>((h.vo f hf).lt g x).2) (fun x=>((h.lo f hf).lt g x).2)
theorem SkAt.own_far {k:Bool} {w:World} {S:Nat→Prop} {sb:Nat} {fv:Value} {fs:List Fr} (h:SkAt k w S sb fv fs) {f:Fr} (hf:f∈fs) {g:Nat} (hg:f.own g):g≠sb∧fv.ownBlock≠some g:=by
  rcases hg with hg|hg
  · exact ⟨fun e=>own_type (h.vo f hf) h.hh (tyS_V k) (by rw [← e];exact hg),own_two (h.vo f hf) h.ow (fun e=>tyF_V k e.symm) hg⟩
  · exact ⟨fun e=>own_type (h.lo f hf) h.hh (tyS_V k) (by rw [← e];exact hg),own_two (h.lo f hf) h.ow (fun e=>tyF_V k e.symm) hg⟩
theorem SkAt.fne {k:Bool} {w:World} {S:Nat→Prop} {sb:Nat} {fv:Value} {fs:List Fr} (h:SkAt k w S sb fv fs):fv.ownBlock≠some sb:=own_type h.ow h.hh (tyS_F k)
theorem SkAt.lt {k:Bool} {w:World} {S:Nat→Prop} {sb:Nat} {fv:Value} {fs:List Fr} (h:SkAt k w S sb fv fs):sb<w.heap.size:=(Array.getElem?_eq_some_iff.1 h.hh).1
theorem SkAt.keep {k:Bool} {w w':World} {S:Nat→Prop} {sb:Nat} {fv:Value} {fs:List Fr} (h:SkAt k w S sb fv fs) (hz:w.heap.size≤w'.heap.size) (hk:∀ j,j<w.heap.size→S j→w'.heap[j]?=w.heap[j]?):SkAt k w' S sb fv fs :=
  { h with
    sz:=fun j hs=>Nat.lt_of_lt_of_le (h.sz j hs) hz
    hh:=(hk sb h.lt h.hS).trans h.hh
    ow:=own_keep h.ow (fun g hg=>hk g (h.ow.lt g hg).2 (h.oS g hg))
    vo:=fun f hf=>own_keep (h.vo f hf) (fun g hg=>hk g (h.own_lt hf (.inl hg)) (h.eS f hf g (.inl hg)))
    lo:=fun f hf=>own_keep (h.lo f hf) (fun g hg=>hk g (h.own_lt hf (.inr hg)) (h.eS f hf g (.inr hg))) }
theorem SkAt.below {k:Bool} {w w':World} {S:Nat→Prop} {sb:Nat} {fv:Value} {fs:List Fr} (h:SkAt k w S sb fv fs) (hb:Below w.heap.size w w'):SkAt k w' S sb fv fs:=h.keep hb.size (fun j hj _=>hb.block j hj)
theorem SkAt.mono {k:Bool} {w:World} {S S':Nat→Prop} {sb:Nat} {fv:Value} {fs:List Fr} (h:SkAt k w S sb fv fs) (hz:∀ j,S' j→j<w.heap.size) (hs:∀ j,j<w.heap.size→S j→S' j):SkAt k w S' sb fv fs :=
  { h with
    sz:=hz
    hS:=hs _ h.lt h.hS
    oS:=fun j hj=>hs j (h.ow.lt j hj).2 (h.oS j hj)
    eS:=fun f hf g hg=>hs g (h.own_lt hf hg) (h.eS f hf g hg) }
theorem SkAt.turn {k:Bool} {W w':World} {S:Nat→Prop} {sb:Nat} {fv fv':Value} {t t' r:List Fr} (h:SkAt k W S sb fv (t++r)) (hz:W.heap.size≤w'.heap.size)
    (kp:∀ j,j<W.heap.size→j≠sb→fv.ownBlock≠some j→(∀ f∈t,¬ f.own j)→w'.heap[j]?=W.heap[j]?)
    (hh:w'.heap[sb]?=some (.cells (hdC k fv' (t'++r)) (tyS k) (0,0))) (ow:w'.ownsRow 0 (tyF k) 3 fv' (t'++r).length (flatF k (t'++r)))
    (vo:∀ f∈t',w'.ownsRow 0 32 2 f.vv f.xs.length (flatV f.xs)) (lo:∀ f∈t',w'.ownsRow 0 32 2 f.lv f.ls.length (flatV f.ls))
    (ne:∀ f∈t',∀ g,f.own g→(∃ p∈t,p.own g)∨W.heap.size≤g) (ap:ApF t') (fS:∀ j,fv'.ownBlock=some j→fv.ownBlock=some j∨W.heap.size≤j)
    (bd:∀ f∈t',f.ls.length≤40∧f.rm≤40∧f.xs.length≤f.rm) (n4:wdF (t'++r)≤4000):SkAt k w' (gS S W.heap.size w'.heap.size) sb fv' (t'++r):=by
  have mr:∀ f∈r,f∈t++r:=fun f hf=>List.mem_append.2 (.inr hf)
  have mt:∀ f∈t,f∈t++r:=fun f hf=>List.mem_append.2 (.inl hf)
  obtain ⟨_,apr,cr⟩:=apF_app.1 h.ap
  have kr:∀ f∈r,∀ g,f.own g→w'.heap[g]?=W.heap[g]?:=fun f hf g hg=>kp g (h.own_lt (mr f hf) hg) (h.own_far (mr f hf) hg).1 (h.own_far (mr f hf) hg).2 (fun p hp x=>cr p hp f hf g x hg)
  refine { sz:=fun j hj=>hj.elim (fun x=>Nat.lt_of_lt_of_le (h.sz j x) hz) (fun x=>x.2),hS:=.inl h.hS,oS:=fun j hj=>?_,eS:=fun f hf g hg=>?_,hh:=hh,ow:=ow,vo:=fun f hf=>?_,lo:=fun f hf=>?_,ap:=apF_app.2 ⟨ap,apr,fun f hf p hp g hg x=>?_⟩,bd:=fun f hf=>?_,n4:=n4 }
  · exact (fS j hj).elim (fun x=>.inl (h.oS j x)) (fun x=>.inr ⟨x,(ow.lt j hj).2⟩)
  · rcases List.mem_append.1 hf with hf|hf
    · rcases ne f hf g hg with ⟨p,hp,x⟩|x
      · exact .inl (h.eS p (mt p hp) g x)
      · exact .inr ⟨x,hg.elim (fun y=>((vo f hf).lt g y).2) (fun y=>((lo f hf).lt g y).2)⟩
    · exact .inl (h.eS f (mr f hf) g hg)
  · rcases List.mem_append.1 hf with hf|hf
    · exact vo f hf
    · exact own_keep (h.vo f (mr f hf)) (fun g hg=>kr f hf g (.inl hg))
  · rcases List.mem_append.1 hf with hf|hf
    · exact lo f hf
    · exact own_keep (h.lo f (mr f hf)) (fun g hg=>kr f hf g (.inr hg))
  · rcases ne f hf g hg with ⟨q,hq,y⟩|y
    · exact cr q hq p hp g y x
    · have:=h.own_lt (mr p hp) x;omega
  · rcases List.mem_append.1 hf with hf|hf
    · exact bd f hf
    · exact h.bd f (mr f hf)
theorem SkAt.topc {k:Bool} {w:World} {S:Nat→Prop} {sb:Nat} {fv:Value} {f:Fr} {r:List Fr} (h:SkAt k w S sb fv (f::r)):∃ g c,fv=.slice (some ⟨g,0,none⟩) (r.length+1) c∧(∀ j,j<3→w.cell? ⟨g,r.length * 3+j,none⟩=(frC k f)[j]?)∧(∀ j,w.frozen? ⟨g,j,none⟩=false)∧g<w.heap.size∧g≠sb:=by
  have hw:=h.ow
  obtain ⟨g,c,rfl⟩:=Go.Joins.ownsRow_form hw (by simp)
  refine ⟨g,c,by simp,fun j hj=>?_,fun j=>hw.frozenAt j,(hw.lt g rfl).2,fun e=>h.fne (by rw [← e];rfl)⟩
  rw [hw.cellAt (r.length * 3+j) (by simp;omega),flatF,List.getElem?_append_right (by rw [flatF_len];omega),flatF_len]
  congr 1
  omega
theorem SkAt.bnd {k:Bool} {w:World} {S:Nat→Prop} {sb:Nat} {fv:Value} {fs:List Fr} (h:SkAt k w S sb fv fs):fs.length≤1333:=by
  have:=wdF_len fs;have:=h.n4;omega
theorem dep_o {W:World} {g q n c:Nat} {a:Option Addr} (h:W.cell? ⟨g,q,none⟩=some (.slice a n c)):Calls Tryz.prog 283 #[.pointer (some ⟨g,q,none⟩)] W fun e w'=>e=.returned (.int .i64 (n:Int))∧w'=W:=by
  go_enter Tryz.func283,Tryz.ntmps283
  go_wp2
  go_ret
  exact ⟨rfl,rfl⟩
theorem wds_f {W:World} {g q n c m:Nat} {a:Option Addr} (h1:W.cell? ⟨g,q+1,none⟩=some (.int .i64 (m:Int))) (h2:W.cell? ⟨g,q+2,none⟩=some (.slice a n c)) (hn:n≤40) (hm:m≤40):Calls Tryz.prog 151 #[.pointer (some ⟨g,q,none⟩)] W fun e w'=>e=.returned (.int .i64 ((n:Int)+m+3))∧w'=W.drew:=by
  have hn2:(n:Int)≤40:=by omega
  have hm2:(m:Int)≤40:=by omega
  clear hn hm
  go_enter Tryz.func151,Tryz.ntmps151
  go_upto_region 1 with fail
  all_goals go_region
  all_goals go_wp2
  all_goals
    go_ret
    exact ⟨rfl,rfl⟩
theorem SkAt.cells {w:World} {S:Nat→Prop} {sb:Nat} {fv:Value} {fs:List Fr} (h:SkAt true w S sb fv fs):w.cell? ⟨sb,0,none⟩=some fv∧w.cell? ⟨sb,1,none⟩=some (.int .i64 (wdF fs:Int))∧(∀ k,w.frozen? ⟨sb,k,none⟩=false)∧sb<w.heap.size:=r2c h.hh
theorem top_none {W:World} {S:Nat→Prop} {sb:Nat} {fv:Value} (h:SkAt true W S sb fv []):Calls Tryz.prog 220 #[.pointer (some ⟨sb,0,none⟩)] W fun e w'=>e=.returned (.tuple #[.pointer none,.int .i64 6])∧w'=W:=by
  obtain ⟨c0,c1,fz,hl⟩:=h.cells
  obtain ⟨a,c,rfl⟩:=ownv h.ow
  simp only [List.length_nil] at c0
  clear h
  go_enter Tryz.func220,Tryz.ntmps220
  go_wp2
  refine bodyPost_ret (v:=.tuple #[.pointer none,.int .i64 6]) (by simp [results,Tryz.results220,go_sem]) rfl ⟨rfl,rfl⟩
theorem top_yes {W:World} {S:Nat→Prop} {sb g c:Nat} {f:Fr} {r:List Fr} (h:SkAt true W S sb (.slice (some ⟨g,0,none⟩) (r.length+1) c) (f::r)):Calls Tryz.prog 220 #[.pointer (some ⟨sb,0,none⟩)] W fun e w'=>e=.returned (.tuple #[.pointer (some ⟨g,r.length * 3,none⟩),.int .i64 0])∧w'=W.drew:=by
  obtain ⟨c0,c1,fz,hl⟩:=h.cells
  have hn:=h.bnd
  simp only [List.length_cons] at hn
  obtain ⟨n,hN⟩:∃ n,r.length=n:=⟨_,rfl⟩
  rw [hN] at c0 hn ⊢
  clear h hN
  have h1:¬ ((n:Int)+1=0):=by omega
  go_enter Tryz.func220,Tryz.ntmps220
  go_upto_region 5 with fail
  all_goals go_region
  all_goals go_wp2
  all_goals refine bodyPost_ret (v:=.tuple #[.pointer (some ⟨g,n * 3,none⟩),.int .i64 0]) (by simp [results,Tryz.results220,go_sem]) rfl ⟨rfl,rfl⟩
theorem new_s (W:World):Calls Tryz.prog 22 #[] W fun e w'=>e=.returned (.pointer (some ⟨W.heap.size,0,none⟩))∧SkAt true w' (fun j=>j=W.heap.size) W.heap.size (.slice none 0 0) []∧Below W.heap.size W w':=by
  go_enter Tryz.func22,Tryz.ntmps22
  go_wp2
  go_ret
  refine ⟨rfl,{ sz:=fun j hj=>by subst hj;simp,hS:=rfl,oS:=fun j hj=>by simp [Value.ownBlock] at hj,eS:=fun f hf=>by simp at hf,hh:=halloc1 _ _,ow:=World.ownsRow_nil _ _ _ _,vo:=fun f hf=>by simp at hf,lo:=fun f hf=>by simp at hf,ap:=trivial,bd:=fun f hf=>by simp at hf,n4:=Nat.zero_le _ },(by repeat (first|exact Below.refl _ _|refine Below.setCell ?_ (by simp;try omega) _|refine Below.alloc ?_ (by simp;try omega) _|refine Below.drew ?_))⟩
theorem callDep (vs:Array Value) (w:World):(callFunc 283 vs).run Tryz.prog w=.ok (.enter 283 vs) w:=by simp [go_sem]
theorem flatV_app:∀ a b:List (Bool×Int),flatV (a++b)=flatV a++flatV b
  | [],b=>rfl
  | v::r,b=>by simp [flatV,flatV_app r b]
def noV:Value:=.agg #[.bool false,.int .i64 0]
def vlV (v:Bool×Int):Value:=.agg #[.bool v.1,.int .i64 v.2]
theorem pk_no {W:World} {g q n c:Nat} {a:Option Addr} (h:W.cell? ⟨g,q,none⟩=some (.slice a n c)) (hg:g<W.heap.size) (k:Int) (hk:k<0∨(n:Int)≤k):Calls Tryz.prog 282 #[.pointer (some ⟨g,q,none⟩),.int .i64 k] W fun e w'=>e=.returned (.tuple #[noV,.int .i64 35])∧Below W.heap.size W w':=by
  have HD:Hid (∀ w,Below W.heap.size W w→Calls Tryz.prog 283 #[.pointer (some ⟨g,q,none⟩)] w fun e w'=>e=.returned (.int .i64 (n:Int))∧w'=w):=fun w hb=>dep_o ((hb.cell (p:=⟨g,q,none⟩) hg).trans h)
  by_cases h1:k<0
  · clear h hk
    go_enter Tryz.func282,Tryz.ntmps282
    go_wp2
    refine bodyPost_ret (v:=.tuple #[noV,.int .i64 35]) (by simp [results,Tryz.results282,go_sem,noV]) rfl ⟨rfl,(by repeat (first|exact Below.refl _ _|refine Below.setCell ?_ (by simp;try omega) _|refine Below.alloc ?_ (by simp;try omega) _|refine Below.drew ?_))⟩
  · have h2:(n:Int)≤k:=by omega
    clear h hk
    go_enter Tryz.func282,Tryz.ntmps282
    go_wp2_with (go_at_call 283;refine (HD.out _ (by repeat (first|exact Below.refl _ _|refine Below.setCell ?_ (by simp;try omega) _|refine Below.alloc ?_ (by simp;try omega) _|refine Below.drew ?_))).mono ?_;rintro e w1 ⟨rfl,rfl⟩)
    refine bodyPost_ret (v:=.tuple #[noV,.int .i64 35]) (by simp [results,Tryz.results282,go_sem,noV]) rfl ⟨rfl,(by repeat (first|exact Below.refl _ _|refine Below.setCell ?_ (by simp;try omega) _|refine Below.alloc ?_ (by simp;try omega) _|refine Below.drew ?_))⟩
set_option maxHeartbeats 2000000 in
theorem pk_yes {W:World} {g q c:Nat} {a:Option Addr} {xs:List (Bool×Int)} (h:W.cell? ⟨g,q,none⟩=some (.slice a xs.length c)) (hg:g<W.heap.size) (hw:W.ownsRow 0 32 2 (.slice a xs.length c) xs.length (flatV xs)) (k:Nat) (hk:k<xs.length) (hn:xs.length≤40) (v:Bool×Int) (hv:xs[xs.length - 1 - k]?=some v):Calls Tryz.prog 282 #[.pointer (some ⟨g,q,none⟩),.int .i64 (k:Int)] W fun e w'=>e=.returned (.tuple #[vlV v,.int .i64 0])∧Below W.heap.size W w':=by
  obtain ⟨n,hN⟩:∃ n,xs.length=n:=⟨_,rfl⟩
  rw [hN] at h hw hk hn hv
  obtain ⟨b,c',hform⟩:=Go.Joins.ownsRow_form hw (by omega)
  injection hform with ha _ hc
  subst ha hc
  obtain ⟨f0,f1⟩:=flatV_at xs _ v hv
  have e0:W.cell? ⟨b,(n - 1 - k) * 2,none⟩=some (.bool v.1):=(hw.cellAt _ (by omega)).trans f0
  have e1:W.cell? ⟨b,(n - 1 - k) * 2+1,none⟩=some (.int .i64 v.2):=(hw.cellAt _ (by omega)).trans f1
  have hb2:b<W.heap.size:=World.block_lt_of_cell? W _ e0
  have hgn:¬ g=W.heap.size:=by omega
  have hbn:¬ b=W.heap.size:=by omega
  have HD:Hid (∀ w,Below W.heap.size W w→Calls Tryz.prog 283 #[.pointer (some ⟨g,q,none⟩)] w fun e w'=>e=.returned (.int .i64 (n:Int))∧w'=w):=fun w hb=>dep_o ((hb.cell (p:=⟨g,q,none⟩) hg).trans h)
  have h1:¬ (k:Int)<0:=by omega
  have h2:¬ (n:Int)≤(k:Int):=by omega
  obtain ⟨m,hm⟩:∃ m,n - 1 - k=m:=⟨_,rfl⟩
  have hm2:(n:Int) - 1 - (k:Int)=(m:Int):=by omega
  have hm3:m<n:=by omega
  have w1:IntKind.i64.wrap ((n:Int) - 1)=(n:Int) - 1:=by rw [IntKind.wrap_i64];omega
  have w2:IntKind.i64.wrap (m:Int)=(m:Int):=by rw [IntKind.wrap_i64];omega
  rw [hm] at e0 e1
  clear hw hN hv f0 f1 hm hk
  obtain ⟨v1,v2⟩:=v
  simp only at e0 e1
  go_enter Tryz.func282,Tryz.ntmps282
  go_upto_region 3 with (go_at_call 283;refine (HD.out _ (by repeat (first|exact Below.refl _ _|refine Below.setCell ?_ (by simp;try omega) _|refine Below.alloc ?_ (by simp;try omega) _|refine Below.drew ?_))).mono ?_;rintro e w1 ⟨rfl,rfl⟩)
  go_region_law (refine step_call1 rfl 283 callDep (.tmp 19) 389 rfl (.pointer (some ⟨g,q,none⟩)) (by first|(simp [Act.eval];done)|(simp [Act.eval,Act.put];done)) (HD.out _ (by repeat (first|exact Below.refl _ _|refine Below.setCell ?_ (by simp;try omega) _|refine Below.alloc ?_ (by simp;try omega) _|refine Below.drew ?_))) ?_;rintro e w3 ⟨rfl,rfl⟩;refine ⟨_,rfl,?_⟩)
  all_goals go_wp2
  all_goals refine bodyPost_ret (v:=.tuple #[.agg #[.bool v1,.int .i64 v2],.int .i64 0]) (by simp [results,Tryz.results282,go_sem]) rfl ⟨rfl,(by repeat (first|exact Below.refl _ _|refine Below.setCell ?_ (by simp;try omega) _|refine Below.alloc ?_ (by simp;try omega) _|refine Below.drew ?_))⟩
def pkI (xs:List (Bool×Int)) (k:Int):Option (Bool×Int):=if 0≤k∧k<(xs.length:Int) then xs[xs.length - 1 - k.toNat]? else none
def oV:Option (Bool×Int)→Value
  | none=>noV
  | some v=>vlV v
def oE (e:Int):Option (Bool×Int)→Int
  | none=>e
  | some _=>0
theorem pk_c {W:World} {g q:Nat} {vv:Value} {xs:List (Bool×Int)} (h:W.cell? ⟨g,q,none⟩=some vv) (hw:W.ownsRow 0 32 2 vv xs.length (flatV xs)) (k:Int) (hn:xs.length≤40):Calls Tryz.prog 282 #[.pointer (some ⟨g,q,none⟩),.int .i64 k] W fun e w'=>e=.returned (.tuple #[oV (pkI xs k),.int .i64 (oE 35 (pkI xs k))])∧Below W.heap.size W w':=by
  obtain ⟨a,c,rfl⟩:=ownv hw
  have hg:=World.block_lt_of_cell? W _ h
  by_cases hk:0≤k∧k<(xs.length:Int)
  · obtain ⟨m,rfl⟩:∃ m:Nat,k=(m:Int):=⟨k.toNat,by omega⟩
    have hl:xs.length - 1 - m<xs.length:=by omega
    have e:pkI xs m=some xs[xs.length - 1 - m]:=by rw [pkI,if_pos hk];simp [hl]
    rw [e]
    exact pk_yes h hg hw m (by omega) hn _ (List.getElem?_eq_getElem hl)
  · have e:pkI xs k=none:=by rw [pkI,if_neg hk]
    rw [e]
    exact pk_no h hg k (by omega)
theorem lcl_on {W:World} {S:Nat→Prop} {sb:Nat} {fv:Value} {f:Fr} {r:List Fr} (h:SkAt true W S sb fv (f::r)) (i:Nat) (hi:i<f.ls.length):∃ b c,f.lv=.slice (some ⟨b,0,none⟩) f.ls.length c∧Calls Tryz.prog 152 #[.pointer (some ⟨sb,0,none⟩),.int .i64 (i:Int)] W fun e w'=>e=.returned (.tuple #[.pointer (some ⟨b,i * 2,none⟩),.int .i64 0])∧w'=W.drew:=by
  obtain ⟨g,c,rfl,hc,hf,hg,hne⟩:=h.topc
  have HT:=top_yes h
  obtain ⟨b,k1,hv⟩:=Go.Joins.ownsRow_form (h.lo f List.mem_cons_self) (by omega)
  refine ⟨b,k1,hv,?_⟩
  have c0:W.cell? ⟨g,r.length * 3+2,none⟩=some (.slice (some ⟨b,0,none⟩) f.ls.length k1):=by rw [← hv];exact hc 2 (by omega)
  clear h hc hf hne hv
  obtain ⟨n,hN⟩:∃ n,f.ls.length=n:=⟨_,rfl⟩
  rw [hN] at c0 hi
  have h1:¬ (i:Int)<0:=by omega
  have h2:¬ (n:Int)≤(i:Int):=by omega
  clear hN
  go_enter Tryz.func152,Tryz.ntmps152
  go_wp2_with (go_at_call 220;refine (HT).mono ?_;rintro e w1 ⟨rfl,rfl⟩)
  refine bodyPost_ret (v:=.tuple #[.pointer (some ⟨b,i * 2,none⟩),.int .i64 0]) (by simp [results,Tryz.results152,go_sem]) rfl ⟨rfl,rfl⟩
theorem local_on {W:World} {S:Nat→Prop} {sb:Nat} {fv:Value} {f:Fr} {r:List Fr} (h:SkAt true W S sb fv (f::r)) (i:Nat) (v:Bool×Int) (hv:f.ls[i]?=some v):Calls Tryz.prog 155 #[.pointer (some ⟨sb,0,none⟩),.int .i64 (i:Int)] W fun e w'=>e=.returned (.tuple #[vlV v,.int .i64 0])∧Below W.heap.size W w':=by
  have hi:=(List.getElem?_eq_some_iff.1 hv).1
  obtain ⟨b,c,hform,_⟩:=lcl_on h i hi
  have HT:Hid (∀ w,Below W.heap.size W w→Calls Tryz.prog 152 #[.pointer (some ⟨sb,0,none⟩),.int .i64 (i:Int)] w fun e w'=>e=.returned (.tuple #[.pointer (some ⟨b,i * 2,none⟩),.int .i64 0])∧w'=w.drew):=fun w hb=>by
    obtain ⟨b',c',hf',hC⟩:=lcl_on (h.below hb) i hi
    rw [hform] at hf'
    injection hf' with e1 _ _
    injection e1 with e1
    injection e1 with e1
    subst e1
    exact hC
  have hw:=h.lo f List.mem_cons_self
  rw [hform] at hw
  obtain ⟨f0,f1⟩:=flatV_at _ _ v hv
  have e0:W.cell? ⟨b,i * 2,none⟩=some (.bool v.1):=(hw.cellAt _ (by omega)).trans f0
  have e1:W.cell? ⟨b,i * 2+1,none⟩=some (.int .i64 v.2):=(hw.cellAt _ (by omega)).trans f1
  have hbl:b<W.heap.size:=World.block_lt_of_cell? W _ e0
  have hbn:¬ b=W.heap.size:=by omega
  obtain ⟨v1,v2⟩:=v
  simp only at e0 e1
  clear h hw f0 f1 hform hv hi
  go_enter Tryz.func155,Tryz.ntmps155
  go_wp2_with (go_at_call 152;refine (HT.out _ (by repeat (first|exact Below.refl _ _|refine Below.setCell ?_ (by simp;try omega) _|refine Below.alloc ?_ (by simp;try omega) _|refine Below.drew ?_))).mono ?_;rintro e w1 ⟨rfl,rfl⟩)
  refine bodyPost_ret (v:=.tuple #[.agg #[.bool v1,.int .i64 v2],.int .i64 0]) (by simp [results,Tryz.results155,go_sem]) rfl ⟨rfl,(by repeat (first|exact Below.refl _ _|refine Below.setCell ?_ (by simp;try omega) _|refine Below.alloc ?_ (by simp;try omega) _|refine Below.drew ?_))⟩
def SkN (k:Bool) (S:Nat→Prop) (W w':World) (sb:Nat) (fs:List Fr):Prop:=(∃ fv,SkAt k w' (gS S W.heap.size w'.heap.size) sb fv fs)∧Tch S W w'
theorem SkN.bel {k:Bool} {S:Nat→Prop} {W wr w':World} {sb:Nat} {fs:List Fr} (hb:Below W.heap.size W wr) (h:SkN k S wr w' sb fs):SkN k S W w' sb fs:=by
  obtain ⟨⟨fv,h1⟩,h2⟩:=h
  have hz:=hb.size
  exact ⟨⟨fv,h1.mono (fun j hj=>hj.elim (fun x=>h1.sz j (.inl x)) (fun x=>x.2)) (fun j _ hj=>hj.imp id (fun x=>⟨by omega,x.2⟩))⟩,((Tch.refl S W).bel hb).trans h2 (fun _ _ x=>x)⟩
theorem SkN.same {k:Bool} {S:Nat→Prop} {W w':World} {sb:Nat} {fv:Value} {fs:List Fr} (h:SkAt k W S sb fv fs) (hb:Below W.heap.size W w'):SkN k S W w' sb fs :=
  ⟨⟨fv,(h.below hb).mono (fun j hj=>hj.elim (fun x=>(h.below hb).sz j x) (fun x=>x.2)) (fun _ _ hj=>.inl hj)⟩,(Tch.refl S W).bel hb⟩
theorem SkN.aft {k:Bool} {S:Nat→Prop} {W w1 w':World} {sb:Nat} {fs:List Fr} (h:SkN k S W w1 sb fs) (hb:Below w1.heap.size w1 w'):SkN k S W w' sb fs:=by
  obtain ⟨⟨fv,h1⟩,h2⟩:=h
  have hz:=hb.size
  exact ⟨⟨fv,(h1.below hb).mono (fun j hj=>hj.elim (fun x=>(h1.below hb).sz j (.inl x)) (fun x=>x.2)) (fun j _ hj=>hj.imp id (fun x=>⟨x.1,by omega⟩))⟩,h2.bel hb⟩
theorem set_fin {k:Bool} {W:World} {S:Nat→Prop} {sb:Nat} {fv:Value} {f:Fr} {r:List Fr} (h:SkAt k W S sb fv (f::r)) (i:Nat) {b c:Nat} (hform:f.lv=.slice (some ⟨b,0,none⟩) f.ls.length c) (v:Bool×Int):SkN k S W ((W.setCell ⟨b,i * 2,none⟩ (.bool v.1)).setCell ⟨b,i * 2+1,none⟩ (.int .i64 v.2)) sb ({ f with ls:=f.ls.set i v }::r):=by
  have hm:f∈f::r:=List.mem_cons_self
  have own:f.own b:=.inr (by rw [hform];rfl)
  obtain ⟨far1,far2⟩:=h.own_far hm own
  have far:∀ j,j≠b→((W.setCell ⟨b,i * 2,none⟩ (.bool v.1)).setCell ⟨b,i * 2+1,none⟩ (.int .i64 v.2)).heap[j]?=W.heap[j]?:=fun j hj=>(Below.heap_setCell _ _ _ _ hj).trans (Below.heap_setCell _ _ _ _ hj)
  have bS:S b:=h.eS f hm b own
  have hlo:=h.lo f hm
  rw [hform] at hlo
  have ap:=h.ap
  refine ⟨⟨fv,?_⟩,((Tch.refl S W).set (p:=⟨b,i * 2,none⟩) (.inl bS) _).set (p:=⟨b,i * 2+1,none⟩) (.inl bS) _⟩
  refine SkAt.turn (t:=[f]) (t':=[{ f with ls:=f.ls.set i v }]) h (by simp) (fun j hj h1 h2 h3=>far j (fun e=>h3 f (by simp) (e ▸ own))) ?_ ?_ ?_ ?_ ?_ ?_ (fun j hj=>.inl hj) ?_ ?_
  · rw [far sb (fun e=>far1 e.symm),h.hh]
    cases k <;> simp [hdC,wdF]
  · have:=own_keep h.ow (fun g hg=>far g (fun e=>far2 (e ▸ hg)))
    cases k <;> simpa [flatF,frC] using this
  · intro p hp
    simp at hp;subst hp
    exact own_keep (h.vo f hm) (fun g hg=>far g (fun e=>ap.1 g hg (by rw [hform,e];rfl)))
  · intro p hp
    simp at hp;subst hp
    simp only [List.length_set]
    rw [flatV_set,hform]
    exact ((hlo.stored (i * 2) (.bool v.1)).1.stored (i * 2+1) (.int .i64 v.2)).1
  · intro p hp g hg
    simp at hp;subst hp
    exact .inl ⟨f,by simp,hg⟩
  · exact ⟨ap.1,by simp,trivial⟩
  · intro p hp
    simp at hp;subst hp
    simpa using h.bd f hm
  · have:=h.n4
    simpa [wdF] using this
def ofV (k:Bool):Nat:=match k with
  | true=>0
  | false=>1
theorem flatF_set (k:Bool) (f:Fr) (r:List Fr) (v:Value) (xs:List (Bool×Int)):flatF k ({ f with vv:=v,xs:=xs }::r)=(flatF k (f::r)).set (r.length * 3+ofV k) v:=by
  have:=flatF_len k r
  rw [flatF,flatF,List.set_append,if_neg (by omega),this]
  cases k <;> simp [frC,ofV]
theorem vv_fin {k:Bool} {W w5:World} {S:Nat→Prop} {sb g c:Nat} {f:Fr} {r:List Fr} (h:SkAt k W S sb (.slice (some ⟨g,0,none⟩) (r.length+1) c) (f::r)) (v':Value) (xs:List (Bool×Int)) (G5:W.grownBy w5 f.vv.ownBlock) (O5:w5.ownsRow 0 32 2 v' xs.length (flatV xs)) (V5:∀ j,v'.ownBlock=some j→f.vv.ownBlock=some j∨W.heap.size≤j) (hl:xs.length≤f.rm):SkN k S W (w5.setCell ⟨g,r.length * 3+ofV k,none⟩ v') sb ({ f with vv:=v',xs:=xs }::r):=by
  have hm:f∈f::r:=List.mem_cons_self
  have gl:g<W.heap.size:=(h.ow.lt g rfl).2
  have gS':S g:=h.oS g rfl
  have gne:g≠sb:=fun e=>h.fne (e ▸ rfl)
  have z5:=G5.size
  have far:∀ j,j≠g→(w5.setCell ⟨g,r.length * 3+ofV k,none⟩ v').heap[j]?=w5.heap[j]?:=fun j hj=>Below.heap_setCell _ _ _ _ hj
  have k5:∀ j,j<W.heap.size→f.vv.ownBlock≠some j→w5.heap[j]?=W.heap[j]?:=fun j hj hn=>G5.block j hj (fun e=>hn e.symm)
  have vg:f.vv.ownBlock≠some g:=fun e=>(h.own_far hm (.inl e)).2 rfl
  have lg:f.lv.ownBlock≠some g:=fun e=>(h.own_far hm (.inr e)).2 rfl
  have vs:f.vv.ownBlock≠some sb:=fun e=>(h.own_far hm (.inl e)).1 rfl
  have ap:=h.ap
  refine ⟨⟨.slice (some ⟨g,0,none⟩) (r.length+1) c,?_⟩,((Tch.refl S W).grown G5 (fun j hj=>.inl (h.eS f hm j (.inl hj)))).set (p:=⟨g,r.length * 3+ofV k,none⟩) (.inl gS') _⟩
  refine SkAt.turn (t:=[f]) (t':=[{ f with vv:=v',xs:=xs }]) h (by simpa using z5) (fun j hj h1 h2 h3=>(far j (fun e=>h2 (e ▸ rfl))).trans (k5 j hj (fun e=>h3 f (by simp) (.inl e)))) ?_ ?_ ?_ ?_ ?_ ?_ (fun j hj=>.inl hj) ?_ ?_
  · rw [far sb (fun e=>gne e.symm),k5 sb h.lt vs,h.hh]
    cases k <;> simp [hdC,wdF]
  · have h1:=own_keep h.ow (w':=w5) (fun j hj=>k5 j (h.ow.lt j hj).2 (fun e=>vg (by rw [e];simp [Value.ownBlock] at hj;rw [hj])))
    have h2:=(h1.stored (r.length * 3+ofV k) v').1
    rw [← flatF_set k f r v' xs] at h2
    exact h2
  · intro p hp
    simp at hp;subst hp
    exact own_keep O5 (fun j hj=>far j (fun e=>by subst e;rcases V5 j hj with x|x;exact vg x;omega))
  · intro p hp
    simp at hp;subst hp
    exact own_keep (h.lo f hm) (fun j hj=>(far j (fun e=>lg (e ▸ hj))).trans (k5 j ((h.lo f hm).lt j hj).2 (fun e=>ap.1 j e hj)))
  · intro p hp j hj
    simp at hp;subst hp
    rcases hj with hj|hj
    · exact (V5 j hj).elim (fun x=>.inl ⟨f,by simp,.inl x⟩) .inr
    · exact .inl ⟨f,by simp,.inr hj⟩
  · refine ⟨fun j hj x=>?_,by simp,trivial⟩
    rcases V5 j hj with y|y
    · exact ap.1 j y x
    · have:=((h.lo f hm).lt j x).2;omega
  · intro p hp
    simp at hp;subst hp
    exact ⟨(h.bd f hm).1,(h.bd f hm).2.1,hl⟩
  · have:=h.n4
    simpa [wdF] using this
def newF (b l m:Nat):Fr:=⟨.slice none 0 0,[],m,.slice (some ⟨b,0,none⟩) l l,List.replicate l (false,0)⟩
theorem ent_fin {k:Bool} {W wr w5 w':World} {S:Nat→Prop} {sb:Nat} {fv v':Value} {fs:List Fr} (h:SkAt k W S sb fv fs) {l m b:Nat} (hl:l≤40) (hm:m≤40) (hw:wdF fs+l+m+3≤4000) (hb:Below W.heap.size W wr) (hlb:W.heap.size≤b) (hB:wr.heap[b]?=some (.cells (flatV (List.replicate l (false,0))).toArray 32 (0,0)))
    (G5:wr.grownBy w5 fv.ownBlock) (O5:w5.ownsRow 0 (tyF k) 3 v' (fs.length+1) (flatF k fs++frC k (newF b l m))) (V5:∀ j,v'.ownBlock=some j→fv.ownBlock=some j∨wr.heap.size≤j) (hz:w'.heap.size=w5.heap.size) (far:∀ j,j≠sb→w'.heap[j]?=w5.heap[j]?) (hh:w'.heap[sb]?=some (.cells (hdC k v' (newF b l m::fs)) (tyS k) (0,0))) (T:Tch S W w'):SkN k S W w' sb (newF b l m::fs):=by
  have z0:=hb.size
  have z5:=G5.size
  have bl:b<wr.heap.size:=(Array.getElem?_eq_some_iff.1 hB).1
  have sl:=h.lt
  have fl:∀ j,fv.ownBlock=some j→j<W.heap.size:=fun j hj=>(h.ow.lt j hj).2
  have k5:∀ j,j<wr.heap.size→fv.ownBlock≠some j→w5.heap[j]?=wr.heap[j]?:=fun j hj hn=>G5.block j hj (fun e=>hn e.symm)
  have b5:w'.heap[b]?=some (.cells (flatV (List.replicate l (false,0))).toArray 32 (0,0)):=(far b (by omega)).trans ((k5 b bl (fun e=>by have:=fl b e;omega)).trans hB)
  refine ⟨⟨v',?_⟩,T⟩
  refine SkAt.turn (t:=[]) (t':=[newF b l m]) h (by omega) (fun j hj h1 h2 _=>(far j h1).trans ((k5 j (by omega) h2).trans (hb.block j hj))) hh ?_ ?_ ?_ ?_ ?_ (fun j hj=>(V5 j hj).imp id (fun x=>by omega)) ?_ ?_
  · refine own_keep (w:=w5) ?_ (fun j hj=>far j (fun e=>?_))
    · simpa [flatF] using O5
    · subst e
      rcases V5 j hj with x|x
      · exact h.fne x
      · omega
  · intro p hp
    simp at hp;subst hp
    exact World.ownsRow_nil _ _ _ _
  · intro p hp
    simp at hp;subst hp
    refine ⟨by rw [flatV_len],.inr ⟨b,l,_,by simp [newF],Nat.zero_le _,b5,by simp [newF],by unfold maxLen;omega,by simp [flatV_len],?_⟩⟩
    simp only [newF,List.length_replicate]
    rw [List.take_of_length_le (by simp [flatV_len])]
  · intro p hp j hj
    simp at hp;subst hp
    rcases hj with hj|hj
    · simp [newF,Value.ownBlock] at hj
    · simp [newF,Value.ownBlock] at hj;subst hj;exact .inr hlb
  · exact ⟨fun j hj=>by simp [newF,Value.ownBlock] at hj,by simp,trivial⟩
  · intro p hp
    simp at hp;subst hp
    exact ⟨by simpa [newF] using hl,hm,Nat.zero_le _⟩
  · simp [wdF,newF];omega
theorem lev_fin {k:Bool} {W w':World} {S:Nat→Prop} {sb g c:Nat} {f:Fr} {r:List Fr} (h:SkAt k W S sb (.slice (some ⟨g,0,none⟩) (r.length+1) c) (f::r)) (hz:W.heap.size≤w'.heap.size) (far:∀ j,j<W.heap.size→j≠sb→j≠g→w'.heap[j]?=W.heap[j]?) (hh:w'.heap[sb]?=some (.cells (hdC k (.slice (some ⟨g,0,none⟩) r.length c) r) (tyS k) (0,0))) (ow:w'.ownsRow 0 (tyF k) 3 (.slice (some ⟨g,0,none⟩) r.length c) r.length (flatF k r)) (T:Tch S W w'):SkN k S W w' sb r:=by
  refine ⟨⟨.slice (some ⟨g,0,none⟩) r.length c,?_⟩,T⟩
  refine SkAt.turn (t:=[f]) (t':=[]) h hz (fun j hj h1 h2 _=>far j hj h1 (fun e=>h2 (e ▸ rfl))) hh ow (by simp) (by simp) (by simp) trivial (fun j hj=>.inl hj) (by simp) ?_
  have:=h.n4
  simp only [wdF] at this
  simp only [List.nil_append]
  omega
theorem grown_cell {W wr w5:World} {row:Option Nat} {g q:Nat} {v:Value} (hb:Below W.heap.size W wr) (hG:wr.grownBy w5 row) (hne:row≠some g) (c0:W.cell? ⟨g,q,none⟩=some v):w5.cell? ⟨g,q,none⟩=some v:=by
  have hg:g<W.heap.size:=World.block_lt_of_cell? W _ c0
  have hz:=hb.size
  exact (World.cell?_of_block ((hG.block g (by omega) (fun e=>hne e.symm)).trans (hb.block g hg))).trans c0
theorem grown_frz {W wr w5:World} {row:Option Nat} {g q:Nat} (hb:Below W.heap.size W wr) (hG:wr.grownBy w5 row) (hg:g<W.heap.size) (hne:row≠some g) (c0:W.frozen? ⟨g,q,none⟩=false):w5.frozen? ⟨g,q,none⟩=false:=by
  have hz:=hb.size
  exact (World.frozen?_of_block ((hG.block g (by omega) (fun e=>hne e.symm)).trans (hb.block g hg))).trans c0
theorem setl_on {W:World} {S:Nat→Prop} {sb:Nat} {fv:Value} {f:Fr} {r:List Fr} (h:SkAt true W S sb fv (f::r)) (i:Nat) (hi:i<f.ls.length) (v:Bool×Int):Calls Tryz.prog 86 #[.pointer (some ⟨sb,0,none⟩),.int .i64 (i:Int),vlV v] W fun e w'=>e=.returned (.int .i64 0)∧SkN true S W w' sb ({ f with ls:=f.ls.set i v }::r):=by
  obtain ⟨b,c,hform,_⟩:=lcl_on h i hi
  have HT:Hid (∀ w,Below W.heap.size W w→Calls Tryz.prog 152 #[.pointer (some ⟨sb,0,none⟩),.int .i64 (i:Int)] w fun e w'=>e=.returned (.tuple #[.pointer (some ⟨b,i * 2,none⟩),.int .i64 0])∧w'=w.drew):=fun w hb=>by
    obtain ⟨b',c',hf',hC⟩:=lcl_on (h.below hb) i hi
    rw [hform] at hf'
    injection hf' with e1 _ _
    injection e1 with e1
    injection e1 with e1
    subst e1
    exact hC
  have hw:=h.lo f List.mem_cons_self
  rw [hform] at hw
  obtain ⟨f0,f1⟩:=flatV_at _ _ _ (List.getElem?_eq_getElem hi)
  have e0:W.cell? ⟨b,i * 2,none⟩=some (.bool f.ls[i].1):=(hw.cellAt _ (by omega)).trans f0
  have e1:W.cell? ⟨b,i * 2+1,none⟩=some (.int .i64 f.ls[i].2):=(hw.cellAt _ (by omega)).trans f1
  have z0:=hw.frozenAt (i * 2)
  have z1:=hw.frozenAt (i * 2+1)
  have hbl:b<W.heap.size:=World.block_lt_of_cell? W _ e0
  have hbn:¬ b=W.heap.size:=by omega
  have FIN:Hid (SkN true S W ((W.setCell ⟨b,i * 2,none⟩ (.bool v.1)).setCell ⟨b,i * 2+1,none⟩ (.int .i64 v.2)) sb ({ f with ls:=f.ls.set i v }::r)):=set_fin h i hform v
  obtain ⟨v1,v2⟩:=v
  simp only at FIN
  unfold vlV
  generalize f.ls[i].1=y0 at *
  generalize f.ls[i].2=y1 at *
  clear h hw f0 f1 hform hi
  go_enter Tryz.func86,Tryz.ntmps86
  go_wp2_with (go_at_call 152;refine (HT.out _ (by repeat (first|exact Below.refl _ _|refine Below.setCell ?_ (by simp;try omega) _|refine Below.alloc ?_ (by simp;try omega) _|refine Below.drew ?_))).mono ?_;rintro e w1 ⟨rfl,rfl⟩)
  go_ret
  exact ⟨rfl,FIN.out.aft (by repeat (first|exact Below.refl _ _|refine Below.setCell ?_ (by simp;try omega) _|refine Below.alloc ?_ (by simp;try omega) _|refine Below.drew ?_))⟩
set_option maxHeartbeats 1000000 in
theorem put_no {W:World} {g q n c m:Nat} {a:Option Addr} (c0:W.cell? ⟨g,q,none⟩=some (.slice a n c)) (c1:W.cell? ⟨g,q+1,none⟩=some (.int .i64 (m:Int))) (hm:m≤n) (v:Bool×Int):Calls Tryz.prog 281 #[.pointer (some ⟨g,q,none⟩),vlV v] W fun e w'=>e=.returned (.int .i64 35)∧Below W.heap.size W w':=by
  have hg:=World.block_lt_of_cell? W _ c0
  have hgn:¬ g=W.heap.size:=by simp at hg;omega
  have HD:Hid (∀ w,Below W.heap.size W w→Calls Tryz.prog 283 #[.pointer (some ⟨g,q,none⟩)] w fun e w'=>e=.returned (.int .i64 (n:Int))∧w'=w):=fun w hb=>dep_o ((hb.cell (p:=⟨g,q,none⟩) hg).trans c0)
  have hm2:(m:Int)≤(n:Int):=by omega
  obtain ⟨v1,v2⟩:=v
  unfold vlV
  clear c0 hm
  go_enter Tryz.func281,Tryz.ntmps281
  go_upto_region 1 with fail
  go_region_law (refine step_call1 rfl 283 callDep (.tmp 5) 389 rfl (.pointer (some ⟨g,q,none⟩)) (by first|(simp [Act.eval];done)|(simp [Act.eval,Act.put];done)) (HD.out _ (by repeat (first|exact Below.refl _ _|refine Below.setCell ?_ (by simp;try omega) _|refine Below.alloc ?_ (by simp;try omega) _|refine Below.drew ?_))) ?_;rintro e w3 ⟨rfl,rfl⟩;refine ⟨_,rfl,?_⟩)
  all_goals go_wp2
  all_goals
    go_ret
    exact ⟨rfl,(by repeat (first|exact Below.refl _ _|refine Below.setCell ?_ (by simp;try omega) _|refine Below.alloc ?_ (by simp;try omega) _|refine Below.drew ?_))⟩
set_option maxHeartbeats 1000000 in
theorem put_yes {W:World} {g q n c m:Nat} {a:Option Addr} {xs:List (Bool×Int)} (c0:W.cell? ⟨g,q,none⟩=some (.slice a n c)) (c1:W.cell? ⟨g,q+1,none⟩=some (.int .i64 (m:Int))) (hfz:∀ j,W.frozen? ⟨g,j,none⟩=false) (hm:n<m) (hm4:m≤40) (hw:W.ownsRow 0 32 2 (.slice a n c) n (flatV xs)) (hne:Value.ownBlock (.slice a n c)≠some g) (v:Bool×Int) :
    Calls Tryz.prog 281 #[.pointer (some ⟨g,q,none⟩),vlV v] W fun e w'=>e=.returned (.int .i64 0)∧∃ (wr w5:World) (g5 c5:Nat),w'=w5.setCell ⟨g,q,none⟩ (.slice (some ⟨g5,0,none⟩) (n+1) c5)∧Below W.heap.size W wr∧wr.grownBy w5 (Value.ownBlock (.slice a n c))∧w5.ownsRow 0 32 2 (.slice (some ⟨g5,0,none⟩) (n+1) c5) (n+1) (flatV (xs++[v]))∧(Value.ownBlock (.slice a n c)=some g5∨wr.heap.size≤g5):=by
  have hg:g<W.heap.size:=World.block_lt_of_cell? W _ c0
  have hgn:¬ g=W.heap.size:=by omega
  have HD:Hid (∀ w,Below W.heap.size W w→Calls Tryz.prog 283 #[.pointer (some ⟨g,q,none⟩)] w fun e w'=>e=.returned (.int .i64 (n:Int))∧w'=w):=fun w hb=>dep_o ((hb.cell (p:=⟨g,q,none⟩) hg).trans c0)
  have hm2:¬ (m:Int)≤(n:Int):=by omega
  rw [flatV_app]
  obtain ⟨v1,v2⟩:=v
  simp only [flatV]
  unfold vlV
  obtain ⟨i0,hi0,hz0,hz1,hz2⟩:=info_parts Tryz.hinfoVl
  have ROW:Hid (W.ownsRow 0 32 2 (.slice a n c) n (flatV xs)):=hw
  have HNE:Hid (Value.ownBlock (.slice a n c)≠some g):=hne
  clear hw hne
  go_enter Tryz.func281,Tryz.ntmps281
  go_upto_region 1 with fail
  go_region_law (refine step_call1 rfl 283 callDep (.tmp 5) 389 rfl (.pointer (some ⟨g,q,none⟩)) (by first|(simp [Act.eval];done)|(simp [Act.eval,Act.put];done)) (HD.out _ (by repeat (first|exact Below.refl _ _|refine Below.setCell ?_ (by simp;try omega) _|refine Below.alloc ?_ (by simp;try omega) _|refine Below.drew ?_))) ?_;rintro e w3 ⟨rfl,rfl⟩;refine ⟨_,rfl,?_⟩)
  all_goals go_upto_region 3 with fail
  all_goals go_region_law (refine step_append_lies _ rfl (.tmp 16) (.tmp 18) 143 rfl 0 32 i0 (.agg #[.bool false,.int .i64 0]) 2 16 Tryz.underlying143 hi0 hz0 hz1 hz2 rfl (by decide) (.slice a n c) n (flatV xs) (by first|(simp [Act.eval];done)|(simp [Act.eval,Act.put];done)) (((ROW.out.alloc _).drew.drew).alloc _) ⟨W.heap.size+1,0,none⟩ 1 1 [.bool v1,.int .i64 v2] (by first|(simp [Act.eval];done)|(simp [Act.eval,Act.put];done)) rfl (World.news_of_block (haA _ _ (by simp))) ?_ (by decide) ?_ ?_ (Nat.zero_le _) _ rfl ?_;(intro u hu;simp at hu;rcases hu with rfl|rfl <;> rfl);(unfold maxLen;omega);omega;intro g5 cap5 w5 hown hgrow hg5 hl5;have O5:Hid _:=hown;have G5:Hid _:=hgrow;have V5:Hid _:=hg5;have y0:w5.cell? ⟨g,q,none⟩=some (.slice a n c):=grown_cell (by repeat (first|exact Below.refl _ _|refine Below.setCell ?_ (by simp;try omega) _|refine Below.alloc ?_ (by simp;try omega) _|refine Below.drew ?_)) hgrow HNE.out c0;have yf:w5.frozen? ⟨g,q,none⟩=false:=grown_frz (by repeat (first|exact Below.refl _ _|refine Below.setCell ?_ (by simp;try omega) _|refine Below.alloc ?_ (by simp;try omega) _|refine Below.drew ?_)) hgrow hg HNE.out (hfz q);clear hown hgrow hg5)
  all_goals go_wp2
  all_goals
    go_ret
    exact ⟨rfl,_,w5,g5,cap5,rfl,(by repeat (first|exact Below.refl _ _|refine Below.setCell ?_ (by simp;try omega) _|refine Below.alloc ?_ (by simp;try omega) _|refine Below.drew ?_)),G5.out,O5.out,V5.out.imp id (fun e=>Nat.le_of_eq e.symm)⟩
structure PF where
  xs:List (Bool×Int)
  rm:Nat
  ls:List (Bool×Int)
def Fr.p (f:Fr):PF:=⟨f.xs,f.rm,f.ls⟩
def SkP (k:Bool) (S:Nat→Prop) (W w':World) (sb:Nat) (ps:List PF):Prop:=∃ fs,SkN k S W w' sb fs∧fs.map Fr.p=ps
theorem callPut (vs:Array Value) (w:World):(callFunc 281 vs).run Tryz.prog w=.ok (.enter 281 vs) w:=by simp [go_sem]
theorem putK_err {W:World} {p:Value} {v:Bool×Int} {E:Int} (hE:¬ E=0) (HT:Hid (∀ w,Below W.heap.size W w→Calls Tryz.prog 220 #[p] w fun e w'=>e=.returned (.tuple #[.pointer none,.int .i64 E])∧w'=w)):Calls Tryz.prog 221 #[p,vlV v] W fun e w'=>e=.returned (.int .i64 E)∧Below W.heap.size W w':=by
  obtain ⟨v1,v2⟩:=v
  unfold vlV
  go_enter Tryz.func221,Tryz.ntmps221
  go_wp2_with (go_at_call 220;refine (HT.out _ (by repeat (first|exact Below.refl _ _|refine Below.setCell ?_ (by simp;try omega) _|refine Below.alloc ?_ (by simp;try omega) _|refine Below.drew ?_))).mono ?_;rintro e w1 ⟨rfl,rfl⟩)
  go_ret
  exact ⟨rfl,(by repeat (first|exact Below.refl _ _|refine Below.setCell ?_ (by simp;try omega) _|refine Below.alloc ?_ (by simp;try omega) _|refine Below.drew ?_))⟩
set_option maxHeartbeats 1000000 in
theorem putK_any {W:World} {sb g q:Nat} {v:Bool×Int} {E:Int} {R:World→World→Prop} (HT:Hid (∀ w,Below W.heap.size W w→Calls Tryz.prog 220 #[.pointer (some ⟨sb,0,none⟩)] w fun e w'=>e=.returned (.tuple #[.pointer (some ⟨g,q,none⟩),.int .i64 0])∧w'=w.drew)) (HP:Hid (∀ w,Below W.heap.size W w→Calls Tryz.prog 281 #[.pointer (some ⟨g,q,none⟩),vlV v] w fun e w'=>e=.returned (.int .i64 E)∧R w w')):Calls Tryz.prog 221 #[.pointer (some ⟨sb,0,none⟩),vlV v] W fun e w'=>e=.returned (.int .i64 E)∧∃ wr,Below W.heap.size W wr∧R wr w':=by
  obtain ⟨v1,v2⟩:=v
  unfold vlV at *
  go_enter Tryz.func221,Tryz.ntmps221
  go_upto_region 4 with (go_at_call 220;refine (HT.out _ (by repeat (first|exact Below.refl _ _|refine Below.setCell ?_ (by simp;try omega) _|refine Below.alloc ?_ (by simp;try omega) _|refine Below.drew ?_))).mono ?_;rintro e w1 ⟨rfl,rfl⟩)
  go_region_law (refine step_call2 rfl 281 callPut (.tmp 17) (.tmp 18) 248 32 rfl (.pointer (some ⟨g,q,none⟩)) (.agg #[.bool v1,.int .i64 v2]) (by first|(simp [Act.eval];done)|(simp [Act.eval,Act.put];done)) (by first|(simp [Act.eval];done)|(simp [Act.eval,Act.put];done)) (HP.out _ (by repeat (first|exact Below.refl _ _|refine Below.setCell ?_ (by simp;try omega) _|refine Below.alloc ?_ (by simp;try omega) _|refine Below.drew ?_))) ?_;rintro e w3 ⟨rfl,hR⟩;refine ⟨_,rfl,?_⟩;have HR:Hid (∃ wr,Below W.heap.size W wr∧R wr w3):=⟨_,(by repeat (first|exact Below.refl _ _|refine Below.setCell ?_ (by simp;try omega) _|refine Below.alloc ?_ (by simp;try omega) _|refine Below.drew ?_)),hR⟩;clear hR)
  all_goals go_wp2
  all_goals
    go_ret
    exact ⟨rfl,HR.out⟩
def puE:List PF→Int
  | []=>6
  | f::_=>if f.xs.length<f.rm then 0 else 35
def puP (v:Bool×Int):List PF→List PF
  | []=>[]
  | f::r=>if f.xs.length<f.rm then { f with xs:=f.xs++[v] }::r else f::r
theorem putK_c {W:World} {S:Nat→Prop} {sb:Nat} {fv:Value} {fs:List Fr} (h:SkAt true W S sb fv fs) (v:Bool×Int):Calls Tryz.prog 221 #[.pointer (some ⟨sb,0,none⟩),vlV v] W fun e w'=>e=.returned (.int .i64 (puE (fs.map Fr.p)))∧SkP true S W w' sb (puP v (fs.map Fr.p)):=by
  cases fs with
  | nil=>exact (putK_err (E:=6) (by decide) (fun w hb=>top_none (h.below hb))).mono (fun e w' x=>⟨x.1,[],SkN.same h x.2,rfl⟩)
  | cons f r =>
    obtain ⟨g,c,rfl,hc,hf,hg,hne⟩:=h.topc
    have HT:Hid (∀ w,Below W.heap.size W w→Calls Tryz.prog 220 #[.pointer (some ⟨sb,0,none⟩)] w fun e w'=>e=.returned (.tuple #[.pointer (some ⟨g,r.length * 3,none⟩),.int .i64 0])∧w'=w.drew):=fun w hb=>top_yes (h.below hb)
    obtain ⟨a,k1,hv⟩:=ownv (h.vo f List.mem_cons_self)
    have hbd:=h.bd f List.mem_cons_self
    have c0:∀ w,Below W.heap.size W w→w.cell? ⟨g,r.length * 3,none⟩=some (.slice a f.xs.length k1):=fun w hb=>(hb.cell (p:=⟨g,r.length * 3,none⟩) hg).trans ((hc 0 (by omega)).trans (by rw [← hv];rfl))
    have c1:∀ w,Below W.heap.size W w→w.cell? ⟨g,r.length * 3+1,none⟩=some (.int .i64 (f.rm:Int)):=fun w hb=>(hb.cell (p:=⟨g,r.length * 3+1,none⟩) hg).trans (hc 1 (by omega))
    simp only [List.map_cons,puE,puP]
    by_cases hr:f.xs.length<f.rm
    · have hr':f.p.xs.length<f.p.rm:=hr
      rw [if_pos hr',if_pos hr']
      refine (putK_any (R:=_) HT (fun w hb=>put_yes (c0 w hb) (c1 w hb) (fun j=>(World.frozen?_of_block (hb.block g hg)).trans (hf j)) hr hbd.2.1 (by rw [← hv];exact (h.below hb).vo f List.mem_cons_self) (by rw [← hv];exact fun e=>(h.own_far List.mem_cons_self (.inl e)).2 rfl) v)).mono ?_
      rintro e w' ⟨rfl,wr,hb,wq,w5,g5,c5,rfl,hb2,G5,O5,V5⟩
      refine ⟨rfl,{ f with vv:=.slice (some ⟨g5,0,none⟩) (f.xs.length+1) c5,xs:=f.xs++[v] }::r,?_,by simp [Fr.p]⟩
      rw [← hv] at G5 V5
      have hB:=Below.step hb hb2
      exact SkN.bel hB (vv_fin (h.below hB) _ _ G5 (by simpa using O5) (fun j hj=>by simp [Value.ownBlock] at hj;subst hj;exact V5) (by simp;omega))
    · have hr':¬ f.p.xs.length<f.p.rm:=hr
      rw [if_neg hr',if_neg hr']
      refine (putK_any (R:=fun w w'=>Below w.heap.size w w') HT (fun w hb=>put_no (c0 w hb) (c1 w hb) (by omega) v)).mono ?_
      rintro e w' ⟨rfl,wr,hb,hb2⟩
      exact ⟨rfl,f::r,SkN.same h (Below.step hb hb2),by simp [Fr.p]⟩
end Go.Proofs.YtlohdfpinmdljaaGreatDoor.Sk
