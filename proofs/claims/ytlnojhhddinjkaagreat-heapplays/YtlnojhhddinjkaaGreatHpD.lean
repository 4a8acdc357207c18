import Derived.Test.YtlnojhhddinjkaaGreatHrR
import Derived.Deep.DeepCutAuto
set_option maxHeartbeats 2000000
set_option maxRecDepth 100000
namespace Go.Proofs.YtlnojhhddinjkaaGreat
open Go.RowKit Go.Maps
structure Tch (S:Nat→Prop) (W w:World):Prop where
 os:w.os=W.os
 tape:w.tape=W.tape
 output:w.output=W.output
 size:W.heap.size≤w.heap.size
 blk:∀ k,k<W.heap.size→¬ S k→w.heap[k]?=W.heap[k]?
theorem Tch.refl (S:Nat→Prop) (W:World):Tch S W W:=⟨rfl,rfl,rfl,Nat.le_refl _,fun _ _ _=>rfl⟩
theorem Tch.bel {S:Nat→Prop} {W w w':World} (h:Tch S W w) (hb:Bw w w'):Tch S W w' :=
 ⟨hb.os.trans h.os,hb.tape.trans h.tape,hb.output.trans h.output,Nat.le_trans h.size hb.size,fun k hk hs=>(hb.block k (Nat.lt_of_lt_of_le hk h.size)).trans (h.blk k hk hs)⟩
theorem Tch.alloc {S:Nat→Prop} {W w:World} (h:Tch S W w) (o:Obj):Tch S W (w.alloc o):=h.bel ((Below.refl _ w).alloc (Nat.le_refl _) o)
theorem Tch.drew {S:Nat→Prop} {W w:World} (h:Tch S W w):Tch S W w.drew:=⟨h.os,h.tape,h.output,h.size,h.blk⟩
theorem Tch.set {S:Nat→Prop} {W w:World} (h:Tch S W w) {p:Addr} (hp:S p.block∨W.heap.size≤p.block) (u:Value):Tch S W (w.setCell p u) :=
 ⟨h.os,h.tape,h.output,by simpa [World.setCell] using h.size,fun k hk hs=>(Below.heap_setCell w p u k (by rintro rfl;rcases hp with hp|hp;exact hs hp;omega)).trans (h.blk k hk hs)⟩
theorem Tch.grown {S:Nat→Prop} {W w w':World} {r:Option Nat} (h:Tch S W w) (hg:w.grownBy w' r) (hr:∀ k,r=some k→S k∨W.heap.size≤k):Tch S W w' :=
 ⟨hg.os.trans h.os,hg.tape.trans h.tape,hg.output.trans h.output,Nat.le_trans h.size hg.size,fun k hk hs=>(hg.block k (Nat.lt_of_lt_of_le hk h.size) (fun e=>by rcases hr k e.symm with x|x;exact hs x;omega)).trans (h.blk k hk hs)⟩
theorem Tch.trans {S S':Nat→Prop} {a b c:World} (h:Tch S a b) (k:Tch S' b c) (hs:∀ k,k<a.heap.size→S' k→S k):Tch S a c :=
 ⟨k.os.trans h.os,k.tape.trans h.tape,k.output.trans h.output,Nat.le_trans h.size k.size,fun i hi hn=>(k.blk i (Nat.lt_of_lt_of_le hi h.size) (fun x=>hn (hs i hi x))).trans (h.blk i hi hn)⟩
theorem Tch.below {S:Nat→Prop} {W w:World} (h:Tch S W w) {N:Nat} (hN:N≤W.heap.size) (hs:∀ k,S k→N≤k):Below N W w :=
 ⟨h.os,h.tape,h.output,h.size,fun k hk=>h.blk k (Nat.lt_of_lt_of_le hk hN) (fun x=>by have:=hs k x;omega)⟩
def gS (S:Nat→Prop) (a b:Nat):Nat→Prop:=fun k=>S k∨(a≤k∧k<b)
theorem Zw {w w':World} {N e s:Nat} {v:Value} {n:Nat} {xs:List Value} (h:w.ownsRow N e s v n xs) (hk:∀ g,v.ownBlock=some g→w'.heap[g]?=w.heap[g]?):w'.ownsRow N e s v n xs:=by
 refine ⟨h.1,?_⟩
 rcases h.2 with ⟨e,e2⟩|⟨g,cap,cur,rfl,h1,h2,h3⟩
 ·exact .inl ⟨e,e2⟩
 ·exact .inr ⟨g,cap,cur,rfl,h1,(hk g rfl).trans h2,h3⟩
theorem hkA {w:World} {n:Nat} {x o:Obj} (h:w.heap[n]?=some x):(w.alloc o).heap[n]?=some x:=by
 rw [Below.heap_alloc _ _ _ (Array.getElem?_eq_some_iff.1 h).1];exact h
theorem haA (w:World) {n:Nat} (o:Obj) (hn:w.heap.size=n):(w.alloc o).heap[n]?=some o:=by subst hn;exact Zg w o
theorem r1c {w:World} {n:Nat} {t:TypeId} {a0:Value} (h:w.heap[n]?=some (.cells #[a0] t (0,0))):w.cell? ⟨n,0,none⟩=some a0∧(∀ k,w.frozen? ⟨n,k,none⟩=false)∧n<w.heap.size :=
 ⟨(cell_of_row w n 0 _ _ _ h).trans rfl,fun k=>frozen_of_row w n k _ _ h,(Array.getElem?_eq_some_iff.1 h).1⟩
theorem k1c {V w:World} {N n:Nat} {t:TypeId} {a0:Value} (hb:Below N V w) (hn:n<N:=by first|omega|(simp;try omega)) (h:V.heap[n]?=some (.cells #[a0] t (0,0)):=by first|exact Hid.out (by assumption)|exact hkA (Hid.out (by assumption))|exact hkA (hkA (Hid.out (by assumption)))|exact haA _ _ rfl|exact hkA (haA _ _ rfl)|exact hkA (hkA (haA _ _ rfl))|exact haA _ _ (by simp;done)|exact hkA (haA _ _ (by simp;done))):Hid (w.heap[n]?=some (.cells #[a0] t (0,0)))∧w.cell? ⟨n,0,none⟩=some a0∧(∀ k,w.frozen? ⟨n,k,none⟩=false)∧n<w.heap.size∧¬ n=w.heap.size:=by
 have h2:=(hb.block n hn).trans h
 obtain ⟨c0,f,l⟩:=r1c h2
 exact ⟨h2,c0,f,l,by omega⟩
theorem r2c {w:World} {n:Nat} {t:TypeId} {a0 a1:Value} (h:w.heap[n]?=some (.cells #[a0,a1] t (0,0))):w.cell? ⟨n,0,none⟩=some a0∧w.cell? ⟨n,1,none⟩=some a1∧(∀ k,w.frozen? ⟨n,k,none⟩=false)∧n<w.heap.size :=
 ⟨(cell_of_row w n 0 _ _ _ h).trans rfl,(cell_of_row w n 1 _ _ _ h).trans rfl,fun k=>frozen_of_row w n k _ _ h,(Array.getElem?_eq_some_iff.1 h).1⟩
theorem k2c {V w:World} {N n:Nat} {t:TypeId} {a0 a1:Value} (hb:Below N V w) (hn:n<N:=by first|omega|(simp;try omega)) (h:V.heap[n]?=some (.cells #[a0,a1] t (0,0)):=by first|exact Hid.out (by assumption)|exact hkA (Hid.out (by assumption))|exact hkA (hkA (Hid.out (by assumption)))|exact haA _ _ rfl|exact hkA (haA _ _ rfl)|exact hkA (hkA (haA _ _ rfl))|exact haA _ _ (by simp;done)|exact hkA (haA _ _ (by simp;done))):Hid (w.heap[n]?=some (.cells #[a0,a1] t (0,0)))∧w.cell? ⟨n,0,none⟩=some a0∧w.cell? ⟨n,1,none⟩=some a1∧(∀ k,w.frozen? ⟨n,k,none⟩=false)∧n<w.heap.size∧¬ n=w.heap.size:=by
 have h2:=(hb.block n hn).trans h
 obtain ⟨c0,c1,f,l⟩:=r2c h2
 exact ⟨h2,c0,c1,f,l,by omega⟩
theorem r3c {w:World} {n:Nat} {t:TypeId} {a0 a1 a2:Value} (h:w.heap[n]?=some (.cells #[a0,a1,a2] t (0,0))):w.cell? ⟨n,0,none⟩=some a0∧w.cell? ⟨n,1,none⟩=some a1∧w.cell? ⟨n,2,none⟩=some a2∧(∀ k,w.frozen? ⟨n,k,none⟩=false)∧n<w.heap.size :=
 ⟨(cell_of_row w n 0 _ _ _ h).trans rfl,(cell_of_row w n 1 _ _ _ h).trans rfl,(cell_of_row w n 2 _ _ _ h).trans rfl,fun k=>frozen_of_row w n k _ _ h,(Array.getElem?_eq_some_iff.1 h).1⟩
theorem k3c {V w:World} {N n:Nat} {t:TypeId} {a0 a1 a2:Value} (hb:Below N V w) (hn:n<N:=by first|omega|(simp;try omega)) (h:V.heap[n]?=some (.cells #[a0,a1,a2] t (0,0)):=by first|exact Hid.out (by assumption)|exact hkA (Hid.out (by assumption))|exact hkA (hkA (Hid.out (by assumption)))|exact haA _ _ rfl|exact hkA (haA _ _ rfl)|exact hkA (hkA (haA _ _ rfl))|exact haA _ _ (by simp;done)|exact hkA (haA _ _ (by simp;done))):Hid (w.heap[n]?=some (.cells #[a0,a1,a2] t (0,0)))∧w.cell? ⟨n,0,none⟩=some a0∧w.cell? ⟨n,1,none⟩=some a1∧w.cell? ⟨n,2,none⟩=some a2∧(∀ k,w.frozen? ⟨n,k,none⟩=false)∧n<w.heap.size∧¬ n=w.heap.size:=by
 have h2:=(hb.block n hn).trans h
 obtain ⟨c0,c1,c2,f,l⟩:=r3c h2
 exact ⟨h2,c0,c1,c2,f,l,by omega⟩
structure Ob where
 d:Int
 nm:ByteArray
 eb:Option Nat
 xs:List Int
def ebV (g:Option Nat) (n:Nat):Value:=match g with
 | none=>.slice none 0 0
 | some g=>.slice (some ⟨g,0,none⟩) n n
def elV (o:Ob):Value:=ebV o.eb o.xs.length
def obC (o:Ob):List Value:=[.int .i64 o.d,.string o.nm,elV o]
def obV (o:Ob):Value:=.agg #[.int .i64 o.d,.string o.nm,elV o]
def noO:Value:=.agg #[.int .i64 0,.string ⟨#[]⟩,.slice none 0 0]
def Xq:List Ob→List Value
 | []=>[]
 | o::r=>obC o++Xq r
theorem Ze0:∀ a b:List Ob,Xq (a++b)=Xq a++Xq b
 | [],b=>rfl
 | o::r,b=>by simp [Xq,Ze0 r b]
theorem Zhh:∀ (os:List Ob) (k:Nat) (o:Ob),os[k]?=some o→∀ j,j<3→(Xq os)[k * 3+j]?=(obC o)[j]?
 | [],k,o,h,_,_=>by simp at h
 | p::r,0,o,h,j,hj=>by
   simp at h;subst h
   simp only [Xq]
   rw [List.getElem?_append_left (by simp [obC];omega)]
   simp
 | p::r,k+1,o,h,j,hj=>by
   have:=Zhh r k o (by simpa using h) j hj
   simp only [Xq]
   rw [List.getElem?_append_right (by simp [obC];omega)]
   rw [← this]
   congr 1
   simp [obC];omega
def intL (xs:List Int):List Value:=xs.map (Value.int .i64)
def wdL:List Ob→Nat
 | []=>0
 | o::r=>o.xs.length+wdL r
theorem Zfl:∀ a b:List Ob,wdL (a++b)=wdL a+wdL b
 | [],b=>by simp [wdL]
 | o::r,b=>by simp [wdL,Zfl r b];omega
structure HpAt (w:World) (S:Nat→Prop) (hb b:Nat) (ov:Value) (os:List Ob):Prop where
 sz:∀ k,S k→k<w.heap.size
 hS:S hb
 oS:∀ k,ov.ownBlock=some k→S k
 eS:∀ o∈os,∀ g,o.eb=some g→S g
 hh:w.heap[hb]?=some (.cells #[.pointer (some ⟨b,0,none⟩),ov,.int .i64 (wdL os:Int)] 138 (0,0))
 ow:w.ownsRow 0 155 3 ov os.length (Xq os)
 el:∀ o∈os,∀ g,o.eb=some g→w.heap[g]?=some (.cells (intL o.xs).toArray 3 (0,0))
 no:∀ o∈os,o.eb=none→o.xs=[]
 dj:∀ (i j:Nat) (o p:Ob) (g:Nat),os[i]?=some o→os[j]?=some p→o.eb=some g→p.eb=some g→i=j
 n1:os.length≤1000
 n2:wdL os≤20000
theorem HpAt.cells {w:World} {S:Nat→Prop} {hb b:Nat} {ov:Value} {os:List Ob} (h:HpAt w S hb b ov os):w.cell? ⟨hb,0,none⟩=some (.pointer (some ⟨b,0,none⟩))∧w.cell? ⟨hb,1,none⟩=some ov∧w.cell? ⟨hb,2,none⟩=some (.int .i64 (wdL os:Int))∧(∀ k,w.frozen? ⟨hb,k,none⟩=false)∧hb<w.heap.size :=
 ⟨(cell_of_row w hb 0 _ _ _ h.hh).trans rfl,(cell_of_row w hb 1 _ _ _ h.hh).trans rfl,(cell_of_row w hb 2 _ _ _ h.hh).trans rfl,fun k=>frozen_of_row w hb k _ _ h.hh,(Array.getElem?_eq_some_iff.1 h.hh).1⟩
theorem HpAt.lte {w:World} {S:Nat→Prop} {hb b:Nat} {ov:Value} {os:List Ob} (h:HpAt w S hb b ov os) {o:Ob} (ho:o∈os) {g:Nat} (hg:o.eb=some g):g<w.heap.size:=(Array.getElem?_eq_some_iff.1 (h.el o ho g hg)).1
theorem HpAt.keep {w w':World} {S:Nat→Prop} {hb b:Nat} {ov:Value} {os:List Ob} (h:HpAt w S hb b ov os) (hz:w.heap.size≤w'.heap.size) (hk:∀ k,k<w.heap.size→S k→w'.heap[k]?=w.heap[k]?):HpAt w' S hb b ov os :=
 { h with
   sz:=fun k hs=>Nat.lt_of_lt_of_le (h.sz k hs) hz
   hh:=(hk hb h.cells.2.2.2.2 h.hS).trans h.hh
   ow:=Zw h.ow (fun g hg=>hk g (h.ow.lt g hg).2 (h.oS g hg))
   el:=fun o ho g hg=>(hk g (h.lte ho hg) (h.eS o ho g hg)).trans (h.el o ho g hg) }
theorem HpAt.below {w w':World} {S:Nat→Prop} {hb b:Nat} {ov:Value} {os:List Ob} (h:HpAt w S hb b ov os) (hb':Bw w w'):HpAt w' S hb b ov os:=h.keep hb'.size (fun k hk _=>hb'.block k hk)
theorem HpAt.mono {w:World} {S S':Nat→Prop} {hb b:Nat} {ov:Value} {os:List Ob} (h:HpAt w S hb b ov os) (hz:∀ k,S' k→k<w.heap.size) (hs:∀ k,k<w.heap.size→S k→S' k):HpAt w S' hb b ov os :=
 { h with
   sz:=hz
   hS:=hs _ h.cells.2.2.2.2 h.hS
   oS:=fun k hk=>hs k (h.ow.lt k hk).2 (h.oS k hk)
   eS:=fun o ho g hg=>hs g (h.lte ho hg) (h.eS o ho g hg) }
theorem Xu (o:Ob) (hn:o.eb=none→o.xs=[]):∃ a,elV o=.slice a o.xs.length o.xs.length:=by
 unfold elV ebV
 cases e:o.eb with
 | none=>exact ⟨none,by rw [hn e];rfl⟩
 | some g=>exact ⟨some ⟨g,0,none⟩,rfl⟩
theorem has_o (d i:Int) (nm:ByteArray) (a:Option Addr) (n c:Nat) (W:World):Calls Tryz.prog 82 #[.agg #[.int .i64 d,.string nm,.slice a n c],.int .i64 i] W fun e w'=>e=.returned (.bool (decide (0≤i∧i<(n:Int))))∧Bw W w':=by
 by_cases h1:(0:Int)≤i
 ·by_cases h2:i<(n:Int)
  ·go_enter Tryz.func82,Tryz.ntmps82
   go_wp2
   go_ret
   exact ⟨by simp [h1,h2],(Below.refl _ _).alloc (Nat.le_refl _) _⟩
  ·go_enter Tryz.func82,Tryz.ntmps82
   go_wp2
   go_ret
   exact ⟨by simp [h2],(Below.refl _ _).alloc (Nat.le_refl _) _⟩
 ·go_enter Tryz.func82,Tryz.ntmps82
  go_wp2
  go_ret
  exact ⟨by simp;omega,(Below.refl _ _).alloc (Nat.le_refl _) _⟩
def rfB (d:Int) (nm:ByteArray):Bool:=!(decide (d=1)&&decide (nm.toList=[]))
theorem Qy (d:Int) (nm:ByteArray) (v:Value) (W:World):Calls Tryz.prog 83 #[.agg #[.int .i64 d,.string nm,v]] W fun e w'=>e=.returned (.bool (rfB d nm))∧Bw W w':=by
 by_cases h1:d=1
 ·by_cases h2:nm.toList=[]
  ·go_enter Tryz.func83,Tryz.ntmps83
   go_wp2
   go_ret
   exact ⟨by simp [rfB,h1,h2],(Below.refl _ _).alloc (Nat.le_refl _) _⟩
  ·go_enter Tryz.func83,Tryz.ntmps83
   go_wp2
   go_ret
   exact ⟨by simp [rfB,h1,h2],(Below.refl _ _).alloc (Nat.le_refl _) _⟩
 ·go_enter Tryz.func83,Tryz.ntmps83
  go_wp2
  go_ret
  exact ⟨by simp [rfB,h1],(Below.refl _ _).alloc (Nat.le_refl _) _⟩
def i32B (n:Int):Bool:=decide (-2147483648≤n)&&decide (n≤2147483647)
theorem Xo (n:Int) (W:World):Calls Tryz.prog 84 #[.int .i64 n] W fun e w'=>e=.returned (.bool (i32B n))∧w'=W:=by
 by_cases h1:(-2147483648:Int)≤n
 ·go_enter Tryz.func84,Tryz.ntmps84
  go_wp2
  go_ret
  exact ⟨by simp [i32B,h1],rfl⟩
 ·go_enter Tryz.func84,Tryz.ntmps84
  go_wp2
  go_ret
  exact ⟨by simp [i32B];omega,rfl⟩
def obI (os:List Ob) (r:Int):Option Ob:=if 1≤r then os[(r - 1).toNat]? else none
def obE (r:Int):Int:=if r=0 then 26 else 3
theorem X9 (os:List Ob) (r:Int):(obI os r=none∧(r<1∨(os.length:Int)<r))∨∃ (k:Nat) (o:Ob),r=(k:Int)+1∧os[k]?=some o∧obI os r=some o:=by
 by_cases h:1≤r∧r≤(os.length:Int)
 ·obtain ⟨k,rfl⟩:∃ k:Nat,r=(k:Int)+1:=⟨(r - 1).toNat,by omega⟩
  have hk:k<os.length:=by omega
  refine .inr ⟨k,_,rfl,List.getElem?_eq_getElem hk,?_⟩
  rw [obI,if_pos h.1,show ((k:Int)+1 - 1).toNat=k by omega];exact List.getElem?_eq_getElem hk
 ·refine .inl ⟨?_,by omega⟩
  unfold obI
  by_cases h0:1≤r
  ·rw [if_pos h0];exact List.getElem?_eq_none (by omega)
  ·rw [if_neg h0]
theorem find_no {W:World} {S:Nat→Prop} {hb b:Nat} {ov:Value} {os:List Ob} (h:HpAt W S hb b ov os) (r:Int) (hr:r<1∨(os.length:Int)<r):Calls Tryz.prog 80 #[.pointer (some ⟨hb,0,none⟩),.int .i64 r] W fun e w'=>e=.returned (.tuple #[noO,.int .i64 (obE r)])∧Bw W w':=by
 obtain ⟨c0,c1,c2,fz,hl⟩:=h.cells
 obtain ⟨a,c,rfl⟩:=ownv h.ow
 have hn:¬ hb=W.heap.size:=by omega
 clear h c0 c2 fz
 by_cases h0:r=0
 ·subst h0
  go_enter Tryz.func80,Tryz.ntmps80
  go_wp2
  refine bodyPost_ret (v:=.tuple #[noO,.int .i64 26]) (by simp [results,Tryz.results80,go_sem,noO]) rfl ⟨rfl,sqR⟩
 ·have e:obE r=3:=by rw [obE,if_neg h0]
  rw [e]
  by_cases h1:r<0
  ·go_enter Tryz.func80,Tryz.ntmps80
   go_wp2
   refine bodyPost_ret (v:=.tuple #[noO,.int .i64 3]) (by simp [results,Tryz.results80,go_sem,noO]) rfl ⟨rfl,sqR⟩
  ·have h2:(os.length:Int)<r:=by omega
   go_enter Tryz.func80,Tryz.ntmps80
   go_wp2
   refine bodyPost_ret (v:=.tuple #[noO,.int .i64 3]) (by simp [results,Tryz.results80,go_sem,noO]) rfl ⟨rfl,sqR⟩
theorem find_yes {W:World} {S:Nat→Prop} {hb b:Nat} {ov:Value} {os:List Ob} (h:HpAt W S hb b ov os) (k:Nat) (o:Ob) (hk:os[k]?=some o):Calls Tryz.prog 80 #[.pointer (some ⟨hb,0,none⟩),.int .i64 ((k:Int)+1)] W fun e w'=>e=.returned (.tuple #[obV o,.int .i64 0])∧Bw W w':=by
 obtain ⟨c0,c1,c2,fz,hl⟩:=h.cells
 have hkl:=(List.getElem?_eq_some_iff.1 hk).1
 obtain ⟨g,c,rfl⟩:=Go.Joins.ownsRow_form h.ow (by omega)
 have hat:=fun jj hj=>(h.ow.cellAt (k * 3+jj) (by omega)).trans (Zhh os k o hk jj hj)
 have e0:W.cell? ⟨g,k * 3,none⟩=some (.int .i64 o.d):=hat 0 (by omega)
 have e1:W.cell? ⟨g,k * 3+1,none⟩=some (.string o.nm):=hat 1 (by omega)
 have e2:W.cell? ⟨g,k * 3+2,none⟩=some (elV o):=hat 2 (by omega)
 have hgl:g<W.heap.size:=World.block_lt_of_cell? W _ e0
 have hn:¬ hb=W.heap.size:=by omega
 have hn2:¬ g=W.heap.size:=by omega
 have g0:¬ ((k:Int)+1=0):=by omega
 have g1:¬ ((k:Int)+1<0):=by omega
 have g2:¬ ((os.length:Int)<(k:Int)+1):=by omega
 have g3:(k:Int)<(os.length:Int):=by omega
 have n1:=h.n1
 obtain ⟨n,hN⟩:∃ n,os.length=n:=⟨_,rfl⟩
 rw [hN] at c1 g2 g3 hkl n1
 obtain ⟨av,hv⟩:=Xu o (h.no o (List.mem_of_getElem? hk))
 obtain ⟨m,hm⟩:∃ m,o.xs.length=m:=⟨_,rfl⟩
 rw [hm] at hv
 have HV:Hid (elV o=.slice av m m):=hv
 rw [hv] at e2
 clear h c0 c2 fz hat hk hN hv hm
 go_enter Tryz.func80,Tryz.ntmps80
 go_wp2
 refine bodyPost_ret (v:=.tuple #[.agg #[.int .i64 o.d,.string o.nm,.slice av m m],.int .i64 0]) (by simp [results,Tryz.results80,go_sem]) rfl ⟨by rw [obV,HV.out],sqR⟩
def obW:Option Ob→Value
 | none=>noO
 | some o=>obV o
def obF (os:List Ob) (r:Int):Int:=match obI os r with
 | none=>obE r
 | some _=>0
theorem Zba (r:Int):¬ obE r=0:=by unfold obE;split <;> decide
theorem Zkp {W:World} {S:Nat→Prop} {hb b:Nat} {ov:Value} {os:List Ob} (h:HpAt W S hb b ov os) (r:Int):Calls Tryz.prog 80 #[.pointer (some ⟨hb,0,none⟩),.int .i64 r] W fun e w'=>e=.returned (.tuple #[obW (obI os r),.int .i64 (obF os r)])∧Bw W w':=by
 rcases X9 os r with ⟨h1,h2⟩|⟨k,o,rfl,h2,h1⟩
 ·rw [obF,h1];exact find_no h r h2
 ·rw [obF,h1];exact find_yes h k o h2
def arO (os:List Ob) (r:Int):Option Ob:=(obI os r).bind fun o=>if o.d=0 then none else some o
def arF (os:List Ob) (r:Int):Int:=match obI os r with
 | none=>obE r
 | some o=>if o.d=0 then 2 else 0
theorem Zks {W:World} {S:Nat→Prop} {hb b:Nat} {ov:Value} {os:List Ob} (h:HpAt W S hb b ov os) (r:Int):Calls Tryz.prog 81 #[.pointer (some ⟨hb,0,none⟩),.int .i64 r] W fun e w'=>e=.returned (.tuple #[obW (arO os r),.int .i64 (arF os r)])∧Bw W w':=by
 have HF:Hid (∀ w,Bw W w→Calls Tryz.prog 80 #[.pointer (some ⟨hb,0,none⟩),.int .i64 r] w fun e w'=>e=.returned (.tuple #[obW (obI os r),.int .i64 (obF os r)])∧Bw w w'):=fun w hb=>Zkp (h.below hb) r
 have B0:Hid (Bw W (W.alloc (.cells #[.int .i64 0,.string ⟨#[]⟩,.slice none 0 0] 155))):=(Below.refl _ _).alloc (Nat.le_refl _) _
 have hno:=h.no
 clear h
 cases ho:obI os r with
 | none =>
   have e1:arO os r=none:=by rw [arO,ho];rfl
   have e2:arF os r=obE r:=by rw [arF,ho]
   have e3:obF os r=obE r:=by rw [obF,ho]
   have hne:=Zba r
   rw [ho,e3] at HF
   rw [e1,e2]
   generalize obE r=E at *
   clear ho e1 e2 e3
   go_enter Tryz.func81,Tryz.ntmps81
   go_wp2_with (go_at_call 80;refine (HF.out _ B0.out).mono ?_;unfold obW noO;rintro e w1 ⟨rfl,hb⟩;have B1:Hid (Bw W w1):=Za B0.out hb;obtain ⟨zB,z0,z1,z2,zf,zL,zN⟩:=k3c (n:=W.heap.size) hb;clear hb HF)
   refine bodyPost_ret (v:=.tuple #[noO,.int .i64 E]) (by simp [results,Tryz.results81,go_sem,noO, *]) rfl ⟨rfl,?_⟩
   repeat (first|exact B1.out|refine Below.setCell ?_ (by simp;try omega) _|refine Below.alloc ?_ (by simp;try omega) _)
 | some o =>
   obtain ⟨av,hv⟩:=Xu o (hno o (by
    rcases X9 os r with ⟨h1,_⟩|⟨k,q,_,h2,h1⟩
    ·rw [h1] at ho;cases ho
    ·rw [h1] at ho;cases ho;exact List.mem_of_getElem? h2))
   obtain ⟨m,hm⟩:∃ m,o.xs.length=m:=⟨_,rfl⟩
   rw [hm] at hv
   have HV:Hid (obV o=.agg #[.int .i64 o.d,.string o.nm,.slice av m m]):=by rw [Hid,obV,hv]
   have e3:obF os r=0:=by rw [obF,ho]
   rw [ho,e3,show obW (some o)=.agg #[.int .i64 o.d,.string o.nm,.slice av m m] from HV.out] at HF
   by_cases hd:o.d=0
   ·have e1:arO os r=none:=by rw [arO,ho];simp [hd]
    have e2:arF os r=2:=by rw [arF,ho];simp [hd]
    rw [e1,e2]
    clear ho e1 e2 e3 hv hm HV hno
    go_enter Tryz.func81,Tryz.ntmps81
    go_wp2_with (go_at_call 80;refine (HF.out _ B0.out).mono ?_;rintro e w1 ⟨rfl,hb⟩;have B1:Hid (Bw W w1):=Za B0.out hb;obtain ⟨zB,z0,z1,z2,zf,zL,zN⟩:=k3c (n:=W.heap.size) hb;clear hb HF)
    refine bodyPost_ret (v:=.tuple #[noO,.int .i64 2]) (by simp [results,Tryz.results81,go_sem,noO, *]) rfl ⟨rfl,?_⟩
    repeat (first|exact B1.out|refine Below.setCell ?_ (by simp;try omega) _|refine Below.alloc ?_ (by simp;try omega) _)
   ·have e1:arO os r=some o:=by rw [arO,ho];simp [hd]
    have e2:arF os r=0:=by rw [arF,ho];simp [hd]
    rw [e1,e2]
    clear ho e1 e2 e3 hv hm hno
    go_enter Tryz.func81,Tryz.ntmps81
    go_wp2_with (go_at_call 80;refine (HF.out _ B0.out).mono ?_;rintro e w1 ⟨rfl,hb⟩;have B1:Hid (Bw W w1):=Za B0.out hb;obtain ⟨zB,z0,z1,z2,zf,zL,zN⟩:=k3c (n:=W.heap.size) hb;clear hb HF)
    refine bodyPost_ret (v:=.tuple #[.agg #[.int .i64 o.d,.string o.nm,.slice av m m],.int .i64 0]) (by simp [results,Tryz.results81,go_sem, *]) rfl ⟨by rw [← HV.out];rfl,?_⟩
    repeat (first|exact B1.out|refine Below.setCell ?_ (by simp;try omega) _|refine Below.alloc ?_ (by simp;try omega) _)
theorem hlen_c {W:World} {S:Nat→Prop} {hb b:Nat} {ov:Value} {os:List Ob} (h:HpAt W S hb b ov os):Calls Tryz.prog 30 #[.pointer (some ⟨hb,0,none⟩)] W fun e w'=>e=.returned (.int .i64 (os.length:Int))∧w'=W:=by
 obtain ⟨c0,c1,c2,fz,hl⟩:=h.cells
 obtain ⟨a,c,rfl⟩:=ownv h.ow
 clear h
 go_enter Tryz.func30,Tryz.ntmps30
 go_wp2
 go_ret
 exact ⟨rfl,rfl⟩
theorem hwds_c {W:World} {S:Nat→Prop} {hb b:Nat} {ov:Value} {os:List Ob} (h:HpAt W S hb b ov os):Calls Tryz.prog 31 #[.pointer (some ⟨hb,0,none⟩)] W fun e w'=>e=.returned (.int .i64 (wdL os:Int))∧w'=W:=by
 obtain ⟨c0,c1,c2,fz,hl⟩:=h.cells
 clear h
 go_enter Tryz.func31,Tryz.ntmps31
 go_wp2
 go_ret
 exact ⟨rfl,rfl⟩
def lnO:Option Ob→Nat
 | none=>0
 | some o=>o.xs.length
def tyHo:Option Ob→Value
 | none=>.agg #[.int .i64 0,.string ⟨#[]⟩]
 | some o=>.agg #[.int .i64 o.d,.string o.nm]
theorem Zg3 (os:List Ob) (hno:∀ o∈os,o.eb=none→o.xs=[]) {x:Option Ob} (hx:∀ o,x=some o→o∈os):∃ d nm a m,obW x=.agg #[.int .i64 d,.string nm,.slice a m m]∧tyHo x=.agg #[.int .i64 d,.string nm]∧lnO x=m:=by
 cases x with
 | none=>exact ⟨0,⟨#[]⟩,none,0,rfl,rfl,rfl⟩
 | some o =>
   obtain ⟨av,hv⟩:=Xu o (hno o (hx o rfl))
   exact ⟨o.d,o.nm,av,o.xs.length,by rw [obW,obV,hv],rfl,rfl⟩
theorem Xm {os:List Ob} {r:Int} {o:Ob} (h:obI os r=some o):o∈os:=by
 rcases X9 os r with ⟨h1,_⟩|⟨k,q,_,h2,h1⟩
 ·rw [h1] at h;cases h
 ·rw [h1] at h;cases h;exact List.mem_of_getElem? h2
theorem Jc {os:List Ob} {r:Int} {o:Ob} (h:arO os r=some o):obI os r=some o∧¬ o.d=0:=by
 unfold arO at h
 cases e:obI os r with
 | none=>rw [e] at h;cases h
 | some q =>
   rw [e] at h
   simp only [Option.bind_some] at h
   split at h
   ·cases h
   ·cases h;exact ⟨rfl,by assumption⟩
theorem typeOf_w {W:World} {p:Value} {r d E:Int} {nm:ByteArray} {a:Option Addr} {m:Nat} (HF:Hid (∀ w,Bw W w→Calls Tryz.prog 80 #[p,.int .i64 r] w fun e w'=>e=.returned (.tuple #[.agg #[.int .i64 d,.string nm,.slice a m m],.int .i64 E])∧Bw w w')):Calls Tryz.prog 39 #[p,.int .i64 r] W fun e w'=>e=.returned (.tuple #[.agg #[.int .i64 d,.string nm],.int .i64 E])∧Bw W w':=by
 have B0:Hid (Bw W (W.alloc (.cells #[.int .i64 0,.string ⟨#[]⟩] 40))):=(Below.refl _ _).alloc (Nat.le_refl _) _
 go_enter Tryz.func39,Tryz.ntmps39
 go_wp2_with (go_at_call 80;refine (HF.out _ B0.out).mono ?_;rintro e w1 ⟨rfl,hb⟩;have B1:Hid (Bw W w1):=Za B0.out hb;obtain ⟨zB,z0,z1,zf,zL,zN⟩:=k2c (n:=W.heap.size) hb;clear hb HF)
 refine bodyPost_ret (v:=.tuple #[.agg #[.int .i64 d,.string nm],.int .i64 E]) (by simp [results,Tryz.results39,go_sem, *]) rfl ⟨rfl,?_⟩
 repeat (first|exact B1.out|refine Below.setCell ?_ (by simp;try omega) _|refine Below.alloc ?_ (by simp;try omega) _)
theorem typeOf_c {W:World} {S:Nat→Prop} {hb b:Nat} {ov:Value} {os:List Ob} (h:HpAt W S hb b ov os) (r:Int):Calls Tryz.prog 39 #[.pointer (some ⟨hb,0,none⟩),.int .i64 r] W fun e w'=>e=.returned (.tuple #[tyHo (obI os r),.int .i64 (obF os r)])∧Bw W w':=by
 obtain ⟨d,nm,a,m,e1,e2,_⟩:=Zg3 os h.no (x:=obI os r) (fun o ho=>Xm ho)
 rw [e2]
 refine typeOf_w (a:=a) (m:=m) (fun w hb=>?_)
 rw [← e1]
 exact Zkp (h.below hb) r
theorem length_w {W:World} {p:Value} {r d E:Int} {nm:ByteArray} {a:Option Addr} {m:Nat} (HF:Hid (∀ w,Bw W w→Calls Tryz.prog 81 #[p,.int .i64 r] w fun e w'=>e=.returned (.tuple #[.agg #[.int .i64 d,.string nm,.slice a m m],.int .i64 E])∧Bw w w')):Calls Tryz.prog 41 #[p,.int .i64 r] W fun e w'=>e=.returned (.tuple #[.int .i64 (m:Int),.int .i64 E])∧Bw W w':=by
 go_enter Tryz.func41,Tryz.ntmps41
 go_wp2_with (go_at_call 81;refine (HF.out _ (Below.refl _ _)).mono ?_;rintro e w1 ⟨rfl,hb⟩;have B1:Hid (Bw W w1):=hb;clear hb HF)
 go_ret2
 exact ⟨rfl,B1.out.alloc B1.out.size _⟩
theorem length_c {W:World} {S:Nat→Prop} {hb b:Nat} {ov:Value} {os:List Ob} (h:HpAt W S hb b ov os) (r:Int):Calls Tryz.prog 41 #[.pointer (some ⟨hb,0,none⟩),.int .i64 r] W fun e w'=>e=.returned (.tuple #[.int .i64 (lnO (arO os r):Int),.int .i64 (arF os r)])∧Bw W w':=by
 obtain ⟨d,nm,a,m,e1,_,e4⟩:=Zg3 os h.no (x:=arO os r) (fun o ho=>Xm (Jc ho).1)
 rw [e4]
 refine length_w (d:=d) (nm:=nm) (a:=a) (fun w hb=>?_)
 rw [← e1]
 exact Zks (h.below hb) r
def geE (os:List Ob) (r i:Int):Int:=match arO os r with
 | none=>arF os r
 | some o=>if 0≤i∧i<(o.xs.length:Int) then 0 else 31
def geR (os:List Ob) (r i:Int):Bool:=match arO os r with
 | none=>false
 | some o=>if 0≤i∧i<(o.xs.length:Int) then rfB o.d o.nm else false
def geN (os:List Ob) (r i:Int):Int:=match arO os r with
 | none=>0
 | some o=>if 0≤i∧i<(o.xs.length:Int) then (o.xs[i.toNat]?).getD 0 else 0
theorem Zhs {os:List Ob} {r:Int} (h:arO os r=none):¬ arF os r=0:=by
 unfold arO at h
 unfold arF
 cases e:obI os r with
 | none=>exact Zba r
 | some o =>
   rw [e] at h
   simp only [Option.bind_some] at h
   split at h
   ·rename_i hd;simp [hd]
   ·cases h
theorem Zhr {os:List Ob} {r:Int} {o:Ob} (h:arO os r=some o):arF os r=0:=by
 obtain ⟨h1,h2⟩:=Jc h
 rw [arF,h1];simp [h2]
theorem get_err {W:World} {p:Value} {r i E:Int} (hE:¬ E=0) (HF:Hid (∀ w,Bw W w→Calls Tryz.prog 81 #[p,.int .i64 r] w fun e w'=>e=.returned (.tuple #[noO,.int .i64 E])∧Bw w w')):Calls Tryz.prog 44 #[p,.int .i64 r,.int .i64 i] W fun e w'=>e=.returned (.tuple #[.agg #[.bool false,.int .i64 0],.int .i64 E])∧Bw W w':=by
 have B0:Hid (Bw W (W.alloc (.cells #[.bool false,.int .i64 0] 38))):=(Below.refl _ _).alloc (Nat.le_refl _) _
 unfold noO at HF
 go_enter Tryz.func44,Tryz.ntmps44
 go_wp2_with (go_at_call 81;refine (HF.out _ B0.out).mono ?_;rintro e w1 ⟨rfl,hb⟩;have B1:Hid (Bw W w1):=Za B0.out hb;obtain ⟨zB,z0,z1,zf,zL,zN⟩:=k2c (n:=W.heap.size) hb;clear hb HF)
 refine bodyPost_ret (v:=.tuple #[.agg #[.bool false,.int .i64 0],.int .i64 E]) (by simp [results,Tryz.results44,go_sem, *]) rfl ⟨rfl,?_⟩
 repeat (first|exact B1.out|refine Below.setCell ?_ (by simp;try omega) _|refine Below.alloc ?_ (by simp;try omega) _)
theorem get_off {W:World} {p:Value} {r i d:Int} {nm:ByteArray} {a:Option Addr} {m:Nat} (hi:¬ (0≤i∧i<(m:Int))) (HF:Hid (∀ w,Bw W w→Calls Tryz.prog 81 #[p,.int .i64 r] w fun e w'=>e=.returned (.tuple #[.agg #[.int .i64 d,.string nm,.slice a m m],.int .i64 0])∧Bw w w')):Calls Tryz.prog 44 #[p,.int .i64 r,.int .i64 i] W fun e w'=>e=.returned (.tuple #[.agg #[.bool false,.int .i64 0],.int .i64 31])∧Bw W w':=by
 have B0:Hid (Bw W (W.alloc (.cells #[.bool false,.int .i64 0] 38))):=(Below.refl _ _).alloc (Nat.le_refl _) _
 have HH:Hid (∀ w:World,Calls Tryz.prog 82 #[.agg #[.int .i64 d,.string nm,.slice a m m],.int .i64 i] w fun e w'=>e=.returned (.bool false)∧Bw w w'):=fun w=>by
  have:=has_o d i nm a m m w
  rw [decide_eq_false hi] at this;exact this
 clear hi
 go_enter Tryz.func44,Tryz.ntmps44
 go_wp2_with (first
  | (go_at_call 81;refine (HF.out _ B0.out).mono ?_;rintro e w1 ⟨rfl,hb⟩;have B1:Hid (Bw W w1):=Za B0.out hb;obtain ⟨zB,z0,z1,zf,zL,zN⟩:=k2c (n:=W.heap.size) hb;clear hb HF)
  | (go_at_call 82;refine (HH.out _).mono ?_;rintro e w2 ⟨rfl,hb⟩;have B2:Hid (Bw W w2):=Za (B1.out.alloc B1.out.size _) hb;have zd:=k2c (n:=W.heap.size) hb;clear zB z0 z1 zf zL zN;obtain ⟨zB,z0,z1,zf,zL,zN⟩:=zd;clear hb HH))
 refine bodyPost_ret (v:=.tuple #[.agg #[.bool false,.int .i64 0],.int .i64 31]) (by simp [results,Tryz.results44,go_sem, *]) rfl ⟨rfl,?_⟩
 repeat (first|exact B2.out|refine Below.setCell ?_ (by simp;try omega) _|refine Below.alloc ?_ (by simp;try omega) _)
theorem callRefs (vs:Array Value) (w:World):(callFunc 83 vs).run Tryz.prog w=.ok (.enter 83 vs) w:=by simp [go_sem]
theorem get_on {W:World} {p:Value} {r d x:Int} {i:Nat} {nm:ByteArray} {g m:Nat} {B:Bool} (hB:rfB d nm=B) (hi:i<m) (hx:W.cell? ⟨g,i,none⟩=some (.int .i64 x)) (HF:Hid (∀ w,Bw W w→Calls Tryz.prog 81 #[p,.int .i64 r] w fun e w'=>e=.returned (.tuple #[.agg #[.int .i64 d,.string nm,.slice (some ⟨g,0,none⟩) m m],.int .i64 0])∧Bw w w')):Calls Tryz.prog 44 #[p,.int .i64 r,.int .i64 (i:Int)] W fun e w'=>e=.returned (.tuple #[.agg #[.bool B,.int .i64 x],.int .i64 0])∧Bw W w':=by
 have B0:Hid (Bw W (W.alloc (.cells #[.bool false,.int .i64 0] 38))):=(Below.refl _ _).alloc (Nat.le_refl _) _
 have hiI:(i:Int)<(m:Int):=by omega
 have HH:Hid (∀ w:World,Calls Tryz.prog 82 #[.agg #[.int .i64 d,.string nm,.slice (some ⟨g,0,none⟩) m m],.int .i64 (i:Int)] w fun e w'=>e=.returned (.bool true)∧Bw w w'):=fun w=>by
  have:=has_o d i nm (some ⟨g,0,none⟩) m m w
  rw [decide_eq_true ⟨by omega,hiI⟩] at this;exact this
 have HR:Hid (∀ w:World,Calls Tryz.prog 83 #[.agg #[.int .i64 d,.string nm,.slice (some ⟨g,0,none⟩) m m]] w fun e w'=>e=.returned (.bool B)∧Bw w w'):=fun w=>by
  have:=Qy d nm (.slice (some ⟨g,0,none⟩) m m) w
  rw [hB] at this;exact this
 have hgl:g<W.heap.size:=World.block_lt_of_cell? W _ hx
 clear hB
 go_enter Tryz.func44,Tryz.ntmps44
 go_upto_region 6 with (first
  | (go_at_call 81;refine (HF.out _ B0.out).mono ?_;rintro e w1 ⟨rfl,hb⟩;have B1:Hid (Bw W w1):=Za B0.out hb;obtain ⟨zB,z0,z1,zf,zL,zN⟩:=k2c (n:=W.heap.size) hb;clear hb HF)
  | (go_at_call 82;refine (HH.out _).mono ?_;rintro e w2 ⟨rfl,hb⟩;have B2:Hid (Bw W w2):=Za (B1.out.alloc B1.out.size _) hb;have zd:=k2c (n:=W.heap.size) hb;have S1:Hid (W.heap.size<w1.heap.size):=zL;clear zB z0 z1 zf zL zN;obtain ⟨zB,z0,z1,zf,zL,zN⟩:=zd;obtain ⟨yB,y0,y1,y2,yf,yL,yN⟩:=k3c (n:=w1.heap.size) hb;have yx:w2.cell? ⟨g,i,none⟩=some (.int .i64 x):=(B2.out.cell (p:=⟨g,i,none⟩) hgl).trans hx;clear hb HH))
 have S2:=S1.out
 go_region_law (refine J8 rfl 83 callRefs (.tmp 27) 155 rfl (.agg #[.int .i64 d,.string nm,.slice (some ⟨g,0,none⟩) m m]) (by first|(simp [Act.eval];done)|(simp [Act.eval,Act.put];done)) (HR.out _) ?_;rintro e w3 ⟨rfl,hb⟩;refine ⟨_,rfl,?_⟩;replace hb:Bw w2 w3:=(Below.refl _ _).drew.trans hb;have B3:Hid (Bw W w3):=Za B2.out hb;have zd:=k2c (n:=W.heap.size) hb;have yd:=k3c (n:=w1.heap.size) hb;clear zB z0 z1 zf zL zN yB y0 y1 y2 yf yL yN;obtain ⟨zB,z0,z1,zf,zL,zN⟩:=zd;obtain ⟨yB,y0,y1,y2,yf,yL,yN⟩:=yd;have yx3:w3.cell? ⟨g,i,none⟩=some (.int .i64 x):=(B3.out.cell (p:=⟨g,i,none⟩) hgl).trans hx;clear hb)
 all_goals go_wp2
 all_goals
  refine bodyPost_ret (v:=.tuple #[.agg #[.bool B,.int .i64 x],.int .i64 0]) (by simp [results,Tryz.results44,go_sem, *]) rfl ⟨rfl,?_⟩
  repeat (first|exact B3.out|refine Below.setCell ?_ (by simp;try omega) _|refine Below.alloc ?_ (by simp;try omega) _)
theorem get_c {W:World} {S:Nat→Prop} {hb b:Nat} {ov:Value} {os:List Ob} (h:HpAt W S hb b ov os) (r i:Int):Calls Tryz.prog 44 #[.pointer (some ⟨hb,0,none⟩),.int .i64 r,.int .i64 i] W fun e w'=>e=.returned (.tuple #[.agg #[.bool (geR os r i),.int .i64 (geN os r i)],.int .i64 (geE os r i)])∧Bw W w':=by
 have HF:∀ w,Bw W w→Calls Tryz.prog 81 #[.pointer (some ⟨hb,0,none⟩),.int .i64 r] w fun e w'=>e=.returned (.tuple #[obW (arO os r),.int .i64 (arF os r)])∧Bw w w':=fun w hb=>Zks (h.below hb) r
 cases ho:arO os r with
 | none =>
   have e1:geE os r i=arF os r:=by rw [geE,ho]
   have e2:geR os r i=false:=by rw [geR,ho]
   have e3:geN os r i=0:=by rw [geN,ho]
   rw [e1,e2,e3]
   rw [ho] at HF
   exact get_err (Zhs ho) HF
 | some o =>
   rw [ho,Zhr ho] at HF
   obtain ⟨av,hv⟩:=Xu o (h.no o (Xm (Jc ho).1))
   by_cases hi:0≤i∧i<(o.xs.length:Int)
   ·obtain ⟨k,rfl⟩:∃ k:Nat,i=(k:Int):=⟨i.toNat,by omega⟩
    have hk:k<o.xs.length:=by omega
    obtain ⟨g,hg⟩:∃ g,o.eb=some g:=by
     cases e:o.eb with
     | none=>rw [h.no o (Xm (Jc ho).1) e] at hk;simp at hk
     | some g=>exact ⟨g,rfl⟩
    have hw:elV o=.slice (some ⟨g,0,none⟩) o.xs.length o.xs.length:=by rw [elV,hg,ebV]
    have e1:geE os r k=0:=by rw [geE,ho];simp only;rw [if_pos hi]
    have e2:geR os r k=rfB o.d o.nm:=by rw [geR,ho];simp only;rw [if_pos hi]
    have e3:geN os r k=o.xs[k]:=by rw [geN,ho];simp only;rw [if_pos hi];simp [hk]
    rw [e1,e2,e3]
    refine get_on (d:=o.d) (nm:=o.nm) (g:=g) (m:=o.xs.length) rfl hk ?_ (fun w hb=>by have:=HF w hb;rw [obW,obV,hw] at this;exact this)
    rw [cell_of_row W g k _ _ _ (h.el o (Xm (Jc ho).1) g hg)]
    simp [intL,hk]
   ·have e1:geE os r i=31:=by rw [geE,ho];simp only;rw [if_neg hi]
    have e2:geR os r i=false:=by rw [geR,ho];simp only;rw [if_neg hi]
    have e3:geN os r i=0:=by rw [geN,ho];simp only;rw [if_neg hi]
    rw [e1,e2,e3]
    exact get_off (d:=o.d) (nm:=o.nm) (a:=av) (m:=o.xs.length) hi (fun w hb=>by have:=HF w hb;rw [obW,obV,hv] at this;exact this)
theorem Tryz.hinfoOb:(Tryz.prog.info? 155).map (fun i=>(i.zero,i.size,i.bytes))=some (some noO,3,48):=by kernel_rfl
theorem HpAt.hne {w:World} {S:Nat→Prop} {hb b:Nat} {ov:Value} {os:List Ob} (h:HpAt w S hb b ov os):ov.ownBlock≠some hb:=by
 intro e
 rcases h.ow.2 with ⟨rfl,_⟩|⟨g,cap,cur,rfl,_,h2,_⟩
 ·simp [Value.ownBlock] at e
 ·simp [Value.ownBlock] at e
  subst e
  rw [h.hh] at h2
  simp at h2
theorem HpAt.ene {w:World} {S:Nat→Prop} {hb b:Nat} {ov:Value} {os:List Ob} (h:HpAt w S hb b ov os) {g:Nat} {C:Array Value} (hg:w.heap[g]?=some (.cells C 3 (0,0))):ov.ownBlock≠some g∧g≠hb:=by
 refine ⟨fun e=>?_,?_⟩
 ·rcases h.ow.2 with ⟨rfl,_⟩|⟨x,cap,cur,rfl,_,h2,_⟩
  ·simp [Value.ownBlock] at e
  ·simp [Value.ownBlock] at e
   subst e
   rw [hg] at h2
   simp at h2
 ·rintro rfl
  rw [h.hh] at hg
  simp at hg
theorem HpAt.push {W w5:World} {S:Nat→Prop} {hb b:Nat} {ov v':Value} {os:List Ob} (h:HpAt W S hb b ov os) (o:Ob) (hn:os.length<1000) (hw:wdL os+o.xs.length≤20000) (ho:o.eb=none→o.xs=[])
 (hg:∀ g,o.eb=some g→S g∧W.heap[g]?=some (.cells (intL o.xs).toArray 3 (0,0))∧∀ p∈os,p.eb≠some g)
 (T:Tch S W w5) (kp:∀ k,k<W.heap.size→ov.ownBlock≠some k→w5.heap[k]?=W.heap[k]?) (O5:w5.ownsRow 0 155 3 v' (os.length+1) (Xq os++obC o)) (hv:∀ k,v'.ownBlock=some k→ov.ownBlock=some k∨W.heap.size≤k) (x:Int) (hx:x=(wdL os:Int)+(o.xs.length:Int)) :
 HpAt ((w5.setCell ⟨hb,1,none⟩ v').drew.setCell ⟨hb,2,none⟩ (.int .i64 x)) (gS S W.heap.size w5.heap.size) hb b v' (os++[o])∧Tch S W ((w5.setCell ⟨hb,1,none⟩ v').drew.setCell ⟨hb,2,none⟩ (.int .i64 x))∧((w5.setCell ⟨hb,1,none⟩ v').drew.setCell ⟨hb,2,none⟩ (.int .i64 x)).heap.size=w5.heap.size:=by
 have hh5:=(kp hb h.cells.2.2.2.2 h.hne).trans h.hh
 have far:∀ k,k≠hb→((w5.setCell ⟨hb,1,none⟩ v').drew.setCell ⟨hb,2,none⟩ (.int .i64 x)).heap[k]?=w5.heap[k]?:=fun k hk=>(Below.heap_setCell _ _ _ _ hk).trans (Below.heap_setCell _ _ _ _ hk)
 have vne:v'.ownBlock≠some hb:=fun e=>by
  rcases O5.2 with ⟨rfl,_⟩|⟨g,cap,cur,rfl,_,h2,_⟩
  ·simp [Value.ownBlock] at e
  ·simp [Value.ownBlock] at e
   subst e
   rw [hh5] at h2
   simp at h2
 have e5:wdL (os++[o])=wdL os+o.xs.length:=by rw [Zfl];simp [wdL]
 have hz5:=T.size
 refine ⟨{ sz:=fun k hk=>?_,hS:=.inl h.hS,oS:=fun k hk=>?_,eS:=fun p hp g hg'=>?_,hh:=?_,ow:=?_,el:=fun p hp g hg'=>?_,no:=fun p hp hn=>?_,dj:=fun i j p q g hi hj hp hq=>?_,n1:=by simp;omega,n2:=by omega },?_,by simp⟩
 ·have:k<w5.heap.size:=hk.elim (fun x=>Nat.lt_of_lt_of_le (h.sz k x) hz5) (fun x=>x.2)
  simpa using this
 ·rcases hv k hk with e|e
  ·exact .inl (h.oS k e)
  ·exact .inr ⟨e,(O5.lt k hk).2⟩
 ·rcases List.mem_append.1 hp with hp|hp
  ·exact .inl (h.eS p hp g hg')
  ·simp at hp;subst hp;exact .inl (hg g hg').1
 ·have:=Go.Joins.block_setCell (w:=(w5.setCell ⟨hb,1,none⟩ v').drew) (i:=2) (v:=.int .i64 x) (show (w5.setCell ⟨hb,1,none⟩ v').drew.heap[hb]?=_ from Go.Joins.block_setCell (i:=1) (v:=v') hh5)
  rw [this,hx,e5]
  simp
 ·rw [show (os++[o]).length=os.length+1 by simp,Ze0]
  refine Zw (w:=w5) ?_ (fun g hg'=>far g (fun e=>vne (by rw [← e];exact hg')))
  simpa [Xq] using O5
 ·rcases List.mem_append.1 hp with hp|hp
  ·have:=h.el p hp g hg'
   obtain ⟨n1,n2⟩:=h.ene this
   exact (far g n2).trans ((kp g (Array.getElem?_eq_some_iff.1 this).1 n1).trans this)
  ·simp at hp;subst hp
   have:=(hg g hg').2.1
   obtain ⟨n1,n2⟩:=h.ene this
   exact (far g n2).trans ((kp g (Array.getElem?_eq_some_iff.1 this).1 n1).trans this)
 ·rcases List.mem_append.1 hp with hp|hp
  ·exact h.no p hp hn
  ·simp at hp;subst hp;exact ho hn
 ·have at_o:∀ {k:Nat} {z:Ob},(os++[o])[k]?=some z→(k<os.length∧os[k]?=some z)∨(k=os.length∧z=o):=fun {k z} hk=>by
   by_cases hl:k<os.length
   ·exact .inl ⟨hl,by rw [List.getElem?_append_left hl] at hk;exact hk⟩
   ·rw [List.getElem?_append_right (by omega)] at hk
    by_cases e:k - os.length=0
    ·rw [e] at hk;simp at hk;exact .inr ⟨by omega,hk.symm⟩
    ·rw [List.getElem?_eq_none (by simp;omega)] at hk;cases hk
  rcases at_o hi with ⟨_,i2⟩|⟨i2,ei⟩ <;> rcases at_o hj with ⟨_,j2⟩|⟨j2,ej⟩
  ·exact h.dj i j p q g i2 j2 hp hq
  ·subst ej;exact absurd hp ((hg g hq).2.2 p (List.mem_of_getElem? i2))
  ·subst ei;exact absurd hq ((hg g hp).2.2 q (List.mem_of_getElem? j2))
  ·omega
 ·exact ((T.set (p:=⟨hb,1,none⟩) (.inl h.hS) _).drew).set (p:=⟨hb,2,none⟩) (.inl h.hS) _
theorem add_c {W:World} {S:Nat→Prop} {hb b:Nat} {ov:Value} {os:List Ob} (h:HpAt W S hb b ov os) (o:Ob) (hn:os.length<1000) (hw:wdL os+o.xs.length≤20000) (ho:o.eb=none→o.xs=[])
 (hg:∀ g,o.eb=some g→S g∧W.heap[g]?=some (.cells (intL o.xs).toArray 3 (0,0))∧∀ p∈os,p.eb≠some g) :
 Calls Tryz.prog 75 #[.pointer (some ⟨hb,0,none⟩),obV o] W fun e w'=>e=.returned (.int .i64 ((os.length:Int)+1))∧(∃ v',HpAt w' (gS S W.heap.size w'.heap.size) hb b v' (os++[o]))∧Tch S W w':=by
 obtain ⟨c0,c1,c2,fz,hl⟩:=h.cells
 obtain ⟨a,c,hov⟩:=ownv h.ow
 obtain ⟨av,hv⟩:=Xu o ho
 have ROW:Hid (W.ownsRow 0 155 3 (.slice a os.length c) os.length (Xq os)):=by have:=h.ow;rw [hov] at this;exact this
 obtain ⟨i0,hi0,hz0,hz1,hz2⟩:=info_parts Tryz.hinfoOb
 have FIN:Hid (∀ (w5:World) (g5 cap5:Nat) (x:Int),Tch S W w5→(∀ k,k<W.heap.size→ov.ownBlock≠some k→w5.heap[k]?=W.heap[k]?)→w5.ownsRow 0 155 3 (.slice (some ⟨g5,0,none⟩) (os.length+1) cap5) (os.length+1) (Xq os++[.int .i64 o.d,.string o.nm,.slice av o.xs.length o.xs.length])→(ov.ownBlock=some g5∨W.heap.size≤g5)→x=(wdL os:Int)+(o.xs.length:Int)→_):=fun w5 g5 cap5 x T kp O5 hv' hx=>h.push (w5:=w5) (v':=.slice (some ⟨g5,0,none⟩) (os.length+1) cap5) o hn hw ho hg T kp (by unfold obC;rw [hv];exact O5) (fun k hk=>by simp [Value.ownBlock] at hk;subst hk;exact hv') x hx
 have HNE:Hid (ov.ownBlock≠some hb):=h.hne
 have OS:Hid (∀ k,ov.ownBlock=some k→S k):=h.oS
 have OL:Hid (∀ k,ov.ownBlock=some k→k<W.heap.size):=fun k hk=>(h.ow.lt k hk).2
 have HB2:Hid (W.heap[hb]?=some (.cells #[.pointer (some ⟨b,0,none⟩),.slice a os.length c,.int .i64 (wdL os:Int)] 138 (0,0))):=by have:=h.hh;rw [hov] at this;exact this
 rw [obV,hv]
 rw [hov] at c1 FIN HNE OS OL
 obtain ⟨n,hN⟩:∃ n,os.length=n:=⟨_,rfl⟩
 obtain ⟨m,hM⟩:∃ m,o.xs.length=m:=⟨_,rfl⟩
 obtain ⟨wd,hW⟩:∃ wd,wdL os=wd:=⟨_,rfl⟩
 rw [hN,hM,hW] at FIN
 rw [hN] at ROW c1 HB2 HNE OS OL hn
 rw [hW] at c2 HB2 hw
 rw [hM] at hw
 rw [hN,hM]
 clear h hg ho hov hv hN hM hW
 have hm1:(m:Int)≤20000:=by omega
 have hw1:(wd:Int)+(m:Int)≤20000:=by omega
 have hbn:¬ hb=W.heap.size:=by omega
 go_enter Tryz.func75,Tryz.ntmps75
 go_upto_region 1 with fail
 go_region_law (refine step_append_lies _ rfl (.tmp 9) (.tmp 11) 136 rfl 0 155 i0 noO 3 48 Tryz.underlying136 hi0 hz0 hz1 hz2 rfl (by decide) (.slice a n c) n (Xq os) (by simp [Act.eval]) (((ROW.out.alloc _).drew).alloc _) ⟨W.heap.size+1,0,none⟩ 1 1 [.int .i64 o.d,.string o.nm,.slice av m m] (by simp [Act.eval]) rfl (World.news_of_block (haA _ _ (by simp))) ?_ (by decide) ?_ ?_ (Nat.zero_le _) _ rfl ?_;(intro u hu;simp at hu;rcases hu with rfl|rfl|rfl <;> rfl);(unfold maxLen;omega);omega;intro g5 cap5 w5 hown hgrow hg5 hl5;have O5:Hid (w5.ownsRow 0 155 3 (.slice (some ⟨g5,0,none⟩) (n+1) cap5) (n+1) (Xq os++[.int .i64 o.d,.string o.nm,.slice av m m])):=hown;have hb5:=(hgrow.block hb (by simp;omega) (fun e=>HNE.out e.symm)).trans (hkA (hkA HB2.out));have bx5:=(hgrow.block W.heap.size (by simp;omega) (fun e=>by have:=OL.out _ e.symm;omega)).trans (hkA (Zg _ _));obtain ⟨y0,y1,y2,yf,yL⟩:=r3c hb5;obtain ⟨x0,x1,x2,xf,xL⟩:=r3c bx5;have T5:Hid (Tch S W w5):=(((Tch.refl S W).alloc _).drew.alloc _).grown hgrow (fun k hk=>.inl (OS.out k hk));have K5:Hid (∀ k,k<W.heap.size→Value.ownBlock (.slice a n c)≠some k→w5.heap[k]?=W.heap[k]?):=(fun k hk hne=>(hgrow.block k (by simp;omega) (fun e=>hne e.symm)).trans ((Below.heap_alloc _ _ _ (by simp;omega)).trans (Below.heap_alloc _ _ _ hk)));have V5:Hid (Value.ownBlock (.slice a n c)=some g5∨W.heap.size≤g5):=hg5.imp id (fun e=>by rw [e];simp;omega);clear hown hgrow hg5 hb5 bx5)
 all_goals have hbw:¬ W.heap.size=hb:=fun e=>hbn e.symm
 all_goals go_upto_region 2 with fail
 all_goals go_region
 all_goals go_wp2
 all_goals
  go_ret
  refine ⟨by simp,?_⟩
  obtain ⟨f1,f2,f3⟩:=FIN.out w5 g5 cap5 ((wd:Int)+(m:Int)) T5.out K5.out O5.out V5.out rfl
  exact ⟨⟨_,f1.mono (fun k hk=>hk.elim (fun x=>f1.sz k (.inl x)) (fun x=>x.2)) (fun k _ hk=>hk.imp id (fun x=>⟨x.1,Nat.lt_of_lt_of_eq x.2 f3.symm⟩))⟩,f2⟩
end Go.Proofs.YtlnojhhddinjkaaGreat
