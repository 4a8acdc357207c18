import Derived.Test.YtfnmmpkhopochaaGreatHrR
import Derived.IntWalk
import Derived.Laws.MakeOwn
import Derived.Deep.RegionLaw
import Derived.Deep.DeepCutAuto
import Derived.Deep.AppendLies
set_option maxRecDepth 100000
namespace Go.Proofs.YtfnmmpkhopochaaGreat
open Go.RowKit Go.Maps
structure Tch (S:Nat→Prop) (W w:World):Prop where
  os:w.os=W.os
  tape:w.tape=W.tape
  output:w.output=W.output
  size:W.heap.size≤w.heap.size
  blk:∀ k,k<W.heap.size→¬ S k→w.heap[k]?=W.heap[k]?
theorem Tch.refl (S:Nat→Prop) (W:World):Tch S W W:=⟨rfl,rfl,rfl,Nat.le_refl _,fun _ _ _=>rfl⟩
theorem Tch.bel {S:Nat→Prop} {W w w':World} (h:Tch S W w) (hb:Below w.heap.size w w'):Tch S W w' :=
  ⟨hb.os.trans h.os,hb.tape.trans h.tape,hb.output.trans h.output,Nat.le_trans h.size hb.size,fun k hk hs=>(hb.block k (Nat.lt_of_lt_of_le hk h.size)).trans (h.blk k hk hs)⟩
theorem Tch.alloc {S:Nat→Prop} {W w:World} (h:Tch S W w) (o:Obj):Tch S W (w.alloc o):=h.bel ((Below.refl _ w).alloc (Nat.le_refl _) o)
theorem Tch.drew {S:Nat→Prop} {W w:World} (h:Tch S W w):Tch S W w.drew:=⟨h.os,h.tape,h.output,h.size,h.blk⟩
theorem Tch.set {S:Nat→Prop} {W w:World} (h:Tch S W w) {p:Addr} (hp:S p.block∨W.heap.size≤p.block) (u:Value):Tch S W (w.setCell p u) :=
  ⟨h.os,h.tape,h.output,by simpa [World.setCell] using h.size,fun k hk hs=>(Below.heap_setCell w p u k (by rintro rfl;rcases hp with hp|hp;exact hs hp;omega)).trans (h.blk k hk hs)⟩
theorem Tch.grown {S:Nat→Prop} {W w w':World} {r:Option Nat} (h:Tch S W w) (hg:w.grownBy w' r) (hr:∀ k,r=some k→S k∨W.heap.size≤k):Tch S W w' :=
  ⟨hg.os.trans h.os,hg.tape.trans h.tape,hg.output.trans h.output,Nat.le_trans h.size hg.size,fun k hk hs=>(hg.block k (Nat.lt_of_lt_of_le hk h.size) (fun e=>by rcases hr k e.symm with x|x;exact hs x;omega)).trans (h.blk k hk hs)⟩
theorem Tch.trans {S S':Nat→Prop} {a b c:World} (h:Tch S a b) (k:Tch S' b c) (hs:∀ k,k<a.heap.size→S' k→S k):Tch S a c :=
  ⟨k.os.trans h.os,k.tape.trans h.tape,k.output.trans h.output,Nat.le_trans h.size k.size,fun i hi hn=>(k.blk i (Nat.lt_of_lt_of_le hi h.size) (fun x=>hn (hs i hi x))).trans (h.blk i hi hn)⟩
theorem Tch.below {S:Nat→Prop} {W w:World} (h:Tch S W w) {N:Nat} (hN:N≤W.heap.size) (hs:∀ k,S k→N≤k):Below N W w :=
  ⟨h.os,h.tape,h.output,h.size,fun k hk=>h.blk k (Nat.lt_of_lt_of_le hk hN) (fun x=>by have:=hs k x;omega)⟩
def gS (S:Nat→Prop) (a b:Nat):Nat→Prop:=fun k=>S k∨(a≤k∧k<b)
theorem own_keep {w w':World} {N e s:Nat} {v:Value} {n:Nat} {xs:List Value} (h:w.ownsRow N e s v n xs) (hk:∀ g,v.ownBlock=some g→w'.heap[g]?=w.heap[g]?):w'.ownsRow N e s v n xs:=by
  refine ⟨h.1,?_⟩
  rcases h.2 with ⟨e,e2⟩|⟨g,cap,cur,rfl,h1,h2,h3⟩
  · exact .inl ⟨e,e2⟩
  · exact .inr ⟨g,cap,cur,rfl,h1,(hk g rfl).trans h2,h3⟩
theorem hkA {w:World} {n:Nat} {x o:Obj} (h:w.heap[n]?=some x):(w.alloc o).heap[n]?=some x:=by
  rw [Below.heap_alloc _ _ _ (Array.getElem?_eq_some_iff.1 h).1];exact h
theorem haA (w:World) {n:Nat} (o:Obj) (hn:w.heap.size=n):(w.alloc o).heap[n]?=some o:=by subst hn;exact halloc1 w o
theorem r1c {w:World} {n:Nat} {t:TypeId} {a0:Value} (h:w.heap[n]?=some (.cells #[a0] t (0,0))):w.cell? ⟨n,0,none⟩=some a0∧(∀ k,w.frozen? ⟨n,k,none⟩=false)∧n<w.heap.size :=
  ⟨(cell_of_row w n 0 _ _ _ h).trans rfl,fun k=>frozen_of_row w n k _ _ h,(Array.getElem?_eq_some_iff.1 h).1⟩
theorem k1c {V w:World} {N n:Nat} {t:TypeId} {a0:Value} (hb:Below N V w) (hn:n<N:=by first|omega|(simp;try omega)) (h:V.heap[n]?=some (.cells #[a0] t (0,0)):=by first|exact Hid.out (by assumption)|exact hkA (Hid.out (by assumption))|exact hkA (hkA (Hid.out (by assumption)))|exact haA _ _ rfl|exact hkA (haA _ _ rfl)|exact hkA (hkA (haA _ _ rfl))|exact haA _ _ (by simp;done)|exact hkA (haA _ _ (by simp;done))):Hid (w.heap[n]?=some (.cells #[a0] t (0,0)))∧w.cell? ⟨n,0,none⟩=some a0∧(∀ k,w.frozen? ⟨n,k,none⟩=false)∧n<w.heap.size∧¬ n=w.heap.size:=by
  have h2:=(hb.block n hn).trans h
  obtain ⟨c0,f,l⟩:=r1c h2
  exact ⟨h2,c0,f,l,by omega⟩
theorem r2c {w:World} {n:Nat} {t:TypeId} {a0 a1:Value} (h:w.heap[n]?=some (.cells #[a0,a1] t (0,0))):w.cell? ⟨n,0,none⟩=some a0∧w.cell? ⟨n,1,none⟩=some a1∧(∀ k,w.frozen? ⟨n,k,none⟩=false)∧n<w.heap.size :=
  ⟨(cell_of_row w n 0 _ _ _ h).trans rfl,(cell_of_row w n 1 _ _ _ h).trans rfl,fun k=>frozen_of_row w n k _ _ h,(Array.getElem?_eq_some_iff.1 h).1⟩
theorem k2c {V w:World} {N n:Nat} {t:TypeId} {a0 a1:Value} (hb:Below N V w) (hn:n<N:=by first|omega|(simp;try omega)) (h:V.heap[n]?=some (.cells #[a0,a1] t (0,0)):=by first|exact Hid.out (by assumption)|exact hkA (Hid.out (by assumption))|exact hkA (hkA (Hid.out (by assumption)))|exact haA _ _ rfl|exact hkA (haA _ _ rfl)|exact hkA (hkA (haA _ _ rfl))|exact haA _ _ (by simp;done)|exact hkA (haA _ _ (by simp;done))):Hid (w.heap[n]?=some (.cells #[a0,a1] t (0,0)))∧w.cell? ⟨n,0,none⟩=some a0∧w.cell? ⟨n,1,none⟩=some a1∧(∀ k,w.frozen? ⟨n,k,none⟩=false)∧n<w.heap.size∧¬ n=w.heap.size:=by
  have h2:=(hb.block n hn).trans h
  obtain ⟨c0,c1,f,l⟩:=r2c h2
  exact ⟨h2,c0,c1,f,l,by omega⟩
theorem r3c {w:World} {n:Nat} {t:TypeId} {a0 a1 a2:Value} (h:w.heap[n]?=some (.cells #[a0,a1,a2] t (0,0))):w.cell? ⟨n,0,none⟩=some a0∧w.cell? ⟨n,1,none⟩=some a1∧w.cell? ⟨n,2,none⟩=some a2∧(∀ k,w.frozen? ⟨n,k,none⟩=false)∧n<w.heap.size :=
  ⟨(cell_of_row w n 0 _ _ _ h).trans rfl,(cell_of_row w n 1 _ _ _ h).trans rfl,(cell_of_row w n 2 _ _ _ h).trans rfl,fun k=>frozen_of_row w n k _ _ h,(Array.getElem?_eq_some_iff.1 h).1⟩
theorem k3c {V w:World} {N n:Nat} {t:TypeId} {a0 a1 a2:Value} (hb:Below N V w) (hn:n<N:=by first|omega|(simp;try omega)) (h:V.heap[n]?=some (.cells #[a0,a1,a2] t (0,0)):=by first|exact Hid.out (by assumption)|exact hkA (Hid.out (by assumption))|exact hkA (hkA (Hid.out (by assumption)))|exact haA _ _ rfl|exact hkA (haA _ _ rfl)|exact hkA (hkA (haA _ _ rfl))|exact haA _ _ (by simp;done)|exact hkA (haA _ _ (by simp;done))):Hid (w.heap[n]?=some (.cells #[a0,a1,a2] t (0,0)))∧w.cell? ⟨n,0,none⟩=some a0∧w.cell? ⟨n,1,none⟩=some a1∧w.cell? ⟨n,2,none⟩=some a2∧(∀ k,w.frozen? ⟨n,k,none⟩=false)∧n<w.heap.size∧¬ n=w.heap.size:=by
  have h2:=(hb.block n hn).trans h
  obtain ⟨c0,c1,c2,f,l⟩:=r3c h2
  exact ⟨h2,c0,c1,c2,f,l,by omega⟩
structure Ob where
  d:Int
  nm:ByteArray
  eb:Option Nat
  xs:List Int
def ebV (g:Option Nat) (n:Nat):Value:=match g with
  | none=>.slice none 0 0
  | some g=>.slice (some ⟨g,0,none⟩) n n
def elV (o:Ob):Value:=ebV o.eb o.xs.length
def obC (o:Ob):List Value:=[.int .i64 o.d,.string o.nm,elV o]
def obV (o:Ob):Value:=.agg #[.int .i64 o.d,.string o.nm,elV o]
def noO:Value:=.agg #[.int .i64 0,.string ⟨#[]⟩,.slice none 0 0]
def flatO:List Ob→List Value
  | []=>[]
  | o::r=>obC o++flatO r
theorem flatO_app:∀ a b:List Ob,flatO (a++b)=flatO a++flatO b
  | [],b=>rfl
  | o::r,b=>by simp [flatO,flatO_app r b]
def intL (xs:List Int):List Value:=xs.map (Value.int .i64)
def wdL:List Ob→Nat
  | []=>0
  | o::r=>o.xs.length+wdL r
theorem wdL_app:∀ a b:List Ob,wdL (a++b)=wdL a+wdL b
  | [],b=>by simp [wdL]
  | o::r,b=>by simp [wdL,wdL_app r b];omega
structure HpAt (w:World) (S:Nat→Prop) (hb b:Nat) (ov:Value) (os:List Ob):Prop where
  sz:∀ k,S k→k<w.heap.size
  hS:S hb
  oS:∀ k,ov.ownBlock=some k→S k
  eS:∀ o∈os,∀ g,o.eb=some g→S g
  hh:w.heap[hb]?=some (.cells #[.pointer (some ⟨b,0,none⟩),ov,.int .i64 (wdL os:Int)] 88 (0,0))
  ow:w.ownsRow 0 93 3 ov os.length (flatO os)
  el:∀ o∈os,∀ g,o.eb=some g→w.heap[g]?=some (.cells (intL o.xs).toArray 3 (0,0))
  no:∀ o∈os,o.eb=none→o.xs=[]
  dj:∀ (i j:Nat) (o p:Ob) (g:Nat),os[i]?=some o→os[j]?=some p→o.eb=some g→p.eb=some g→i=j
  n1:os.length≤1000
  n2:wdL os≤20000
theorem HpAt.cells {w:World} {S:Nat→Prop} {hb b:Nat} {ov:Value} {os:List Ob} (h:HpAt w S hb b ov os):w.cell? ⟨hb,0,none⟩=some (.pointer (some ⟨b,0,none⟩))∧w.cell? ⟨hb,1,none⟩=some ov∧w.cell? ⟨hb,2,none⟩=some (.int .i64 (wdL os:Int))∧(∀ k,w.frozen? ⟨hb,k,none⟩=false)∧hb<w.heap.size :=
  ⟨(cell_of_row w hb 0 _ _ _ h.hh).trans rfl,(cell_of_row w hb 1 _ _ _ h.hh).trans rfl,(cell_of_row w hb 2 _ _ _ h.hh).trans rfl,fun k=>frozen_of_row w hb k _ _ h.hh,(Array.getElem?_eq_some_iff.1 h.hh).1⟩
theorem HpAt.lte {w:World} {S:Nat→Prop} {hb b:Nat} {ov:Value} {os:List Ob} (h:HpAt w S hb b ov os) {o:Ob} (ho:o∈os) {g:Nat} (hg:o.eb=some g):g<w.heap.size:=(Array.getElem?_eq_some_iff.1 (h.el o ho g hg)).1
theorem HpAt.keep {w w':World} {S:Nat→Prop} {hb b:Nat} {ov:Value} {os:List Ob} (h:HpAt w S hb b ov os) (hz:w.heap.size≤w'.heap.size) (hk:∀ k,k<w.heap.size→S k→w'.heap[k]?=w.heap[k]?):HpAt w' S hb b ov os :=
  { h with
    sz:=fun k hs=>Nat.lt_of_lt_of_le (h.sz k hs) hz
    hh:=(hk hb h.cells.2.2.2.2 h.hS).trans h.hh
    ow:=own_keep h.ow (fun g hg=>hk g (h.ow.lt g hg).2 (h.oS g hg))
    el:=fun o ho g hg=>(hk g (h.lte ho hg) (h.eS o ho g hg)).trans (h.el o ho g hg) }
theorem HpAt.below {w w':World} {S:Nat→Prop} {hb b:Nat} {ov:Value} {os:List Ob} (h:HpAt w S hb b ov os) (hb':Below w.heap.size w w'):HpAt w' S hb b ov os:=h.keep hb'.size (fun k hk _=>hb'.block k hk)
theorem HpAt.mono {w:World} {S S':Nat→Prop} {hb b:Nat} {ov:Value} {os:List Ob} (h:HpAt w S hb b ov os) (hz:∀ k,S' k→k<w.heap.size) (hs:∀ k,k<w.heap.size→S k→S' k):HpAt w S' hb b ov os :=
  { h with
    sz:=hz
    hS:=hs _ h.cells.2.2.2.2 h.hS
    oS:=fun k hk=>hs k (h.ow.lt k hk).2 (h.oS k hk)
    eS:=fun o ho g hg=>hs g (h.lte ho hg) (h.eS o ho g hg) }
theorem elV_form (o:Ob) (hn:o.eb=none→o.xs=[]):∃ a,elV o=.slice a o.xs.length o.xs.length:=by
  unfold elV ebV
  cases e:o.eb with
  | none=>exact ⟨none,by rw [hn e];rfl⟩
  | some g=>exact ⟨some ⟨g,0,none⟩,rfl⟩
theorem find_nil (r:Int) (W:World):Calls Tryz.prog 48 #[.pointer none,.int .i64 r] W fun e w'=>e=.returned (.tuple #[noO,.int .i64 2])∧Below W.heap.size W w':=by
  go_enter Tryz.func48,Tryz.ntmps48
  go_wp2
  refine bodyPost_ret (v:=.tuple #[noO,.int .i64 2]) (by simp [results,Tryz.results48,go_sem,noO]) rfl ⟨rfl,(by repeat (first|exact Below.refl _ _|refine Below.setCell ?_ (by simp;try omega) _|refine Below.alloc ?_ (by simp;try omega) _|refine Below.drew ?_))⟩
theorem farr_nil (r:Int) (W:World):Calls Tryz.prog 43 #[.pointer none,.int .i64 r] W fun e w'=>e=.returned (.tuple #[noO,.int .i64 2])∧Below W.heap.size W w':=by
  have HF:Hid (∀ w,Calls Tryz.prog 48 #[.pointer none,.int .i64 r] w fun e w'=>e=.returned (.tuple #[noO,.int .i64 2])∧Below w.heap.size w w'):=find_nil r
  go_enter Tryz.func43,Tryz.ntmps43
  go_wp2_with (go_at_call 48;refine (HF.out _).mono ?_;unfold noO;rintro e w1 ⟨rfl,hb⟩;have B1:Hid (Below W.heap.size W w1):=bstep ((Below.refl _ _).alloc (Nat.le_refl _) _) hb;obtain ⟨zB,z0,z1,z2,zf,zL,zN⟩:=k3c (n:=W.heap.size) hb;clear hb HF)
  refine bodyPost_ret (v:=.tuple #[noO,.int .i64 2]) (by simp [results,Tryz.results43,go_sem,noO, *]) rfl ⟨rfl,?_⟩
  repeat (first|exact B1.out|refine Below.setCell ?_ (by simp;try omega) _|refine Below.alloc ?_ (by simp;try omega) _)
theorem hlen_nil (W:World):Calls Tryz.prog 17 #[.pointer none] W fun e w'=>e=.returned (.int .i64 0)∧w'=W:=by
  go_enter Tryz.func17,Tryz.ntmps17
  go_wp2
  go_ret
  exact ⟨rfl,rfl⟩
theorem hwds_nil (W:World):Calls Tryz.prog 21 #[.pointer none] W fun e w'=>e=.returned (.int .i64 0)∧w'=W:=by
  go_enter Tryz.func21,Tryz.ntmps21
  go_wp2
  go_ret
  exact ⟨rfl,rfl⟩
theorem hlen_c {W:World} {S:Nat→Prop} {hb b:Nat} {ov:Value} {os:List Ob} (h:HpAt W S hb b ov os):Calls Tryz.prog 17 #[.pointer (some ⟨hb,0,none⟩)] W fun e w'=>e=.returned (.int .i64 (os.length:Int))∧w'=W:=by
  obtain ⟨c0,c1,c2,fz,hl⟩:=h.cells
  obtain ⟨a,c,rfl⟩:=ownv h.ow
  clear h
  go_enter Tryz.func17,Tryz.ntmps17
  go_wp2
  go_ret
  exact ⟨rfl,rfl⟩
theorem hwds_c {W:World} {S:Nat→Prop} {hb b:Nat} {ov:Value} {os:List Ob} (h:HpAt W S hb b ov os):Calls Tryz.prog 21 #[.pointer (some ⟨hb,0,none⟩)] W fun e w'=>e=.returned (.int .i64 (wdL os:Int))∧w'=W:=by
  obtain ⟨c0,c1,c2,fz,hl⟩:=h.cells
  clear h
  go_enter Tryz.func21,Tryz.ntmps21
  go_wp2
  go_ret
  exact ⟨rfl,rfl⟩
theorem typeOf_w {W:World} {p:Value} {r d E:Int} {nm:ByteArray} {a:Option Addr} {m:Nat} (HF:Hid (∀ w,Below W.heap.size W w→Calls Tryz.prog 48 #[p,.int .i64 r] w fun e w'=>e=.returned (.tuple #[.agg #[.int .i64 d,.string nm,.slice a m m],.int .i64 E])∧Below w.heap.size w w')):Calls Tryz.prog 18 #[p,.int .i64 r] W fun e w'=>e=.returned (.tuple #[.agg #[.int .i64 d,.string nm],.int .i64 E])∧Below W.heap.size W w':=by
  have B0:Hid (Below W.heap.size W (W.alloc (.cells #[.int .i64 0,.string ⟨#[]⟩] 40))):=(Below.refl _ _).alloc (Nat.le_refl _) _
  go_enter Tryz.func18,Tryz.ntmps18
  go_wp2_with (go_at_call 48;refine (HF.out _ B0.out).mono ?_;rintro e w1 ⟨rfl,hb⟩;have B1:Hid (Below W.heap.size W w1):=bstep B0.out hb;obtain ⟨zB,z0,z1,zf,zL,zN⟩:=k2c (n:=W.heap.size) hb;clear hb HF)
  refine bodyPost_ret (v:=.tuple #[.agg #[.int .i64 d,.string nm],.int .i64 E]) (by simp [results,Tryz.results18,go_sem, *]) rfl ⟨rfl,?_⟩
  repeat (first|exact B1.out|refine Below.setCell ?_ (by simp;try omega) _|refine Below.alloc ?_ (by simp;try omega) _)
theorem typeOf_nil (r:Int) (W:World):Calls Tryz.prog 18 #[.pointer none,.int .i64 r] W fun e w'=>e=.returned (.tuple #[.agg #[.int .i64 0,.string ⟨#[]⟩],.int .i64 2])∧Below W.heap.size W w' :=
  typeOf_w (a:=none) (m:=0) (fun w _=>find_nil r w)
theorem length_w {W:World} {p:Value} {r d E:Int} {nm:ByteArray} {a:Option Addr} {m:Nat} (HF:Hid (∀ w,Below W.heap.size W w→Calls Tryz.prog 43 #[p,.int .i64 r] w fun e w'=>e=.returned (.tuple #[.agg #[.int .i64 d,.string nm,.slice a m m],.int .i64 E])∧Below w.heap.size w w')):Calls Tryz.prog 22 #[p,.int .i64 r] W fun e w'=>e=.returned (.tuple #[.int .i64 (m:Int),.int .i64 E])∧Below W.heap.size W w':=by
  go_enter Tryz.func22,Tryz.ntmps22
  go_wp2_with (go_at_call 43;refine (HF.out _ (Below.refl _ _)).mono ?_;rintro e w1 ⟨rfl,hb⟩;have B1:Hid (Below W.heap.size W w1):=hb;clear hb HF)
  go_ret2
  exact ⟨rfl,B1.out.alloc B1.out.size _⟩
theorem length_nil (r:Int) (W:World):Calls Tryz.prog 22 #[.pointer none,.int .i64 r] W fun e w'=>e=.returned (.tuple #[.int .i64 0,.int .i64 2])∧Below W.heap.size W w' :=
  length_w (m:=0) (d:=0) (nm:=⟨#[]⟩) (a:=none) (fun w _=>farr_nil r w)
theorem get_err {W:World} {p:Value} {r i E:Int} (hE:¬ E=0) (HF:Hid (∀ w,Below W.heap.size W w→Calls Tryz.prog 43 #[p,.int .i64 r] w fun e w'=>e=.returned (.tuple #[noO,.int .i64 E])∧Below w.heap.size w w')):Calls Tryz.prog 15 #[p,.int .i64 r,.int .i64 i] W fun e w'=>e=.returned (.tuple #[.agg #[.bool false,.int .i64 0],.int .i64 E])∧Below W.heap.size W w':=by
  have B0:Hid (Below W.heap.size W (W.alloc (.cells #[.bool false,.int .i64 0] 38))):=(Below.refl _ _).alloc (Nat.le_refl _) _
  unfold noO at HF
  go_enter Tryz.func15,Tryz.ntmps15
  go_wp2_with (go_at_call 43;refine (HF.out _ B0.out).mono ?_;rintro e w1 ⟨rfl,hb⟩;have B1:Hid (Below W.heap.size W w1):=bstep B0.out hb;obtain ⟨zB,z0,z1,zf,zL,zN⟩:=k2c (n:=W.heap.size) hb;clear hb HF)
  refine bodyPost_ret (v:=.tuple #[.agg #[.bool false,.int .i64 0],.int .i64 E]) (by simp [results,Tryz.results15,go_sem, *]) rfl ⟨rfl,?_⟩
  repeat (first|exact B1.out|refine Below.setCell ?_ (by simp;try omega) _|refine Below.alloc ?_ (by simp;try omega) _)
theorem get_nil (r i:Int) (W:World):Calls Tryz.prog 15 #[.pointer none,.int .i64 r,.int .i64 i] W fun e w'=>e=.returned (.tuple #[.agg #[.bool false,.int .i64 0],.int .i64 2])∧Below W.heap.size W w' :=
  get_err (by decide) (fun w _=>farr_nil r w)
theorem Tryz.hinfoOb:(Tryz.prog.info? 93).map (fun i=>(i.zero,i.size,i.bytes))=some (some noO,3,48):=by kernel_rfl
theorem HpAt.hne {w:World} {S:Nat→Prop} {hb b:Nat} {ov:Value} {os:List Ob} (h:HpAt w S hb b ov os):ov.ownBlock≠some hb:=by
  intro e
  rcases h.ow.2 with ⟨rfl,_⟩|⟨g,cap,cur,rfl,_,h2,_⟩
  · simp [Value.ownBlock] at e
  · simp [Value.ownBlock] at e
    subst e
    rw [h.hh] at h2
    simp at h2
theorem HpAt.ene {w:World} {S:Nat→Prop} {hb b:Nat} {ov:Value} {os:List Ob} (h:HpAt w S hb b ov os) {g:Nat} {C:Array Value} (hg:w.heap[g]?=some (.cells C 3 (0,0))):ov.ownBlock≠some g∧g≠hb:=by
  refine ⟨fun e=>?_,?_⟩
  · rcases h.ow.2 with ⟨rfl,_⟩|⟨x,cap,cur,rfl,_,h2,_⟩
    · simp [Value.ownBlock] at e
    · simp [Value.ownBlock] at e
      subst e
      rw [hg] at h2
      simp at h2
  · rintro rfl
    rw [h.hh] at hg
    simp at hg
theorem HpAt.push {W w5:World} {S:Nat→Prop} {hb b:Nat} {ov v':Value} {os:List Ob} (h:HpAt W S hb b ov os) (o:Ob) (hn:os.length<1000) (hw:wdL os+o.xs.length≤20000) (ho:o.eb=none→o.xs=[])
    (hg:∀ g,o.eb=some g→S g∧W.heap[g]?=some (.cells (intL o.xs).toArray 3 (0,0))∧∀ p∈os,p.eb≠some g)
    (T:Tch S W w5) (kp:∀ k,k<W.heap.size→ov.ownBlock≠some k→w5.heap[k]?=W.heap[k]?) (O5:w5.ownsRow 0 93 3 v' (os.length+1) (flatO os++obC o)) (hv:∀ k,v'.ownBlock=some k→ov.ownBlock=some k∨W.heap.size≤k) (x:Int) (hx:x=(wdL os:Int)+(o.xs.length:Int)) :
    HpAt ((w5.setCell ⟨hb,1,none⟩ v').drew.setCell ⟨hb,2,none⟩ (.int .i64 x)) (gS S W.heap.size w5.heap.size) hb b v' (os++[o])∧Tch S W ((w5.setCell ⟨hb,1,none⟩ v').drew.setCell ⟨hb,2,none⟩ (.int .i64 x))∧((w5.setCell ⟨hb,1,none⟩ v').drew.setCell ⟨hb,2,none⟩ (.int .i64 x)).heap.size=w5.heap.size:=by
  have hh5:=(kp hb h.cells.2.2.2.2 h.hne).trans h.hh
  have far:∀ k,k≠hb→((w5.setCell ⟨hb,1,none⟩ v').drew.setCell ⟨hb,2,none⟩ (.int .i64 x)).heap[k]?=w5.heap[k]?:=fun k hk=>(Below.heap_setCell _ _ _ _ hk).trans (Below.heap_setCell _ _ _ _ hk)
  have vne:v'.ownBlock≠some hb:=fun e=>by
    rcases O5.2 with ⟨rfl,_⟩|⟨g,cap,cur,rfl,_,h2,_⟩
    · simp [Value.ownBlock] at e
    · simp [Value.ownBlock] at e
      subst e
      rw [hh5] at h2
      simp at h2
  have e5:wdL (os++[o])=wdL os+o.xs.length:=by rw [wdL_app];simp [wdL]
  have hz5:=T.size
  refine ⟨{ sz:=fun k hk=>?_,hS:=.inl h.hS,oS:=fun k hk=>?_,eS:=fun p hp g hg'=>?_,hh:=?_,ow:=?_,el:=fun p hp g hg'=>?_,no:=fun p hp hn=>?_,dj:=fun i j p q g hi hj hp hq=>?_,n1:=by simp;omega,n2:=by omega },?_,by simp⟩
  · have:k<w5.heap.size:=hk.elim (fun x=>Nat.lt_of_lt_of_le (h.sz k x) hz5) (fun x=>x.2)
    simpa using this
  · rcases hv k hk with e|e
    · exact .inl (h.oS k e)
    · exact .inr ⟨e,(O5.lt k hk).2⟩
  · rcases List.mem_append.1 hp with hp|hp
    · exact .inl (h.eS p hp g hg')
    · simp at hp;subst hp;exact .inl (hg g hg').1
  · have:=Go.Joins.block_setCell (w:=(w5.setCell ⟨hb,1,none⟩ v').drew) (i:=2) (v:=.int .i64 x) (show (w5.setCell ⟨hb,1,none⟩ v').drew.heap[hb]?=_ from Go.Joins.block_setCell (i:=1) (v:=v') hh5)
    rw [this,hx,e5]
    simp
  · rw [show (os++[o]).length=os.length+1 by simp,flatO_app]
    refine own_keep (w:=w5) ?_ (fun g hg'=>far g (fun e=>vne (by rw [← e];exact hg')))
    simpa [flatO] using O5
  · rcases List.mem_append.1 hp with hp|hp
    · have:=h.el p hp g hg'
      obtain ⟨n1,n2⟩:=h.ene this
      exact (far g n2).trans ((kp g (Array.getElem?_eq_some_iff.1 this).1 n1).trans this)
    · simp at hp;subst hp
      have:=(hg g hg').2.1
      obtain ⟨n1,n2⟩:=h.ene this
      exact (far g n2).trans ((kp g (Array.getElem?_eq_some_iff.1 this).1 n1).trans this)
  · rcases List.mem_append.1 hp with hp|hp
    · exact h.no p hp hn
    · simp at hp;subst hp;exact ho hn
  · have at_o:∀ {k:Nat} {z:Ob},(os++[o])[k]?=some z→(k<os.length∧os[k]?=some z)∨(k=os.length∧z=o):=fun {k z} hk=>by
      by_cases hl:k<os.length
      · exact .inl ⟨hl,by rw [List.getElem?_append_left hl] at hk;exact hk⟩
      · rw [List.getElem?_append_right (by omega)] at hk
        by_cases e:k - os.length=0
        · rw [e] at hk;simp at hk;exact .inr ⟨by omega,hk.symm⟩
        · rw [List.getElem?_eq_none (by simp;omega)] at hk;cases hk
    rcases at_o hi with ⟨_,i2⟩|⟨i2,ei⟩ <;> rcases at_o hj with ⟨_,j2⟩|⟨j2,ej⟩
    · exact h.dj i j p q g i2 j2 hp hq
    · subst ej;exact absurd hp ((hg g hq).2.2 p (List.mem_of_getElem? i2))
    · subst ei;exact absurd hq ((hg g hp).2.2 q (List.mem_of_getElem? j2))
    · omega
  · exact ((T.set (p:=⟨hb,1,none⟩) (.inl h.hS) _).drew).set (p:=⟨hb,2,none⟩) (.inl h.hS) _
set_option maxHeartbeats 2000000 in
theorem add_c {W:World} {S:Nat→Prop} {hb b:Nat} {ov:Value} {os:List Ob} (h:HpAt W S hb b ov os) (o:Ob) (hn:os.length<1000) (hw:wdL os+o.xs.length≤20000) (ho:o.eb=none→o.xs=[])
    (hg:∀ g,o.eb=some g→S g∧W.heap[g]?=some (.cells (intL o.xs).toArray 3 (0,0))∧∀ p∈os,p.eb≠some g) :
    Calls Tryz.prog 42 #[.pointer (some ⟨hb,0,none⟩),obV o] W fun e w'=>e=.returned (.int .i64 ((os.length:Int)+1))∧(∃ v',HpAt w' (gS S W.heap.size w'.heap.size) hb b v' (os++[o]))∧Tch S W w':=by
  obtain ⟨c0,c1,c2,fz,hl⟩:=h.cells
  obtain ⟨a,c,hov⟩:=ownv h.ow
  obtain ⟨av,hv⟩:=elV_form o ho
  have ROW:Hid (W.ownsRow 0 93 3 (.slice a os.length c) os.length (flatO os)):=by have:=h.ow;rw [hov] at this;exact this
  obtain ⟨i0,hi0,hz0,hz1,hz2⟩:=info_parts Tryz.hinfoOb
  have FIN:Hid (∀ (w5:World) (g5 cap5:Nat) (x:Int),Tch S W w5→(∀ k,k<W.heap.size→ov.ownBlock≠some k→w5.heap[k]?=W.heap[k]?)→w5.ownsRow 0 93 3 (.slice (some ⟨g5,0,none⟩) (os.length+1) cap5) (os.length+1) (flatO os++[.int .i64 o.d,.string o.nm,.slice av o.xs.length o.xs.length])→(ov.ownBlock=some g5∨W.heap.size≤g5)→x=(wdL os:Int)+(o.xs.length:Int)→_):=fun w5 g5 cap5 x T kp O5 hv' hx=>h.push (w5:=w5) (v':=.slice (some ⟨g5,0,none⟩) (os.length+1) cap5) o hn hw ho hg T kp (by unfold obC;rw [hv];exact O5) (fun k hk=>by simp [Value.ownBlock] at hk;subst hk;exact hv') x hx
  have HNE:Hid (ov.ownBlock≠some hb):=h.hne
  have OS:Hid (∀ k,ov.ownBlock=some k→S k):=h.oS
  have OL:Hid (∀ k,ov.ownBlock=some k→k<W.heap.size):=fun k hk=>(h.ow.lt k hk).2
  have HB2:Hid (W.heap[hb]?=some (.cells #[.pointer (some ⟨b,0,none⟩),.slice a os.length c,.int .i64 (wdL os:Int)] 88 (0,0))):=by have:=h.hh;rw [hov] at this;exact this
  rw [obV,hv]
  rw [hov] at c1 FIN HNE OS OL
  obtain ⟨n,hN⟩:∃ n,os.length=n:=⟨_,rfl⟩
  obtain ⟨m,hM⟩:∃ m,o.xs.length=m:=⟨_,rfl⟩
  obtain ⟨wd,hW⟩:∃ wd,wdL os=wd:=⟨_,rfl⟩
  rw [hN,hM,hW] at FIN
  rw [hN] at ROW c1 HB2 HNE OS OL hn
  rw [hW] at c2 HB2 hw
  rw [hM] at hw
  rw [hN,hM]
  clear h hg ho hov hv hN hM hW
  have hm1:(m:Int)≤20000:=by omega
  have hw1:(wd:Int)+(m:Int)≤20000:=by omega
  have hbn:¬ hb=W.heap.size:=by omega
  go_enter Tryz.func42,Tryz.ntmps42
  go_upto_region 1 with fail
  go_region_law (refine step_append_lies _ rfl (.tmp 9) (.tmp 11) 86 rfl 0 93 i0 noO 3 48 Tryz.underlying86 hi0 hz0 hz1 hz2 rfl (by decide) (.slice a n c) n (flatO os) (by simp [Act.eval]) (((ROW.out.alloc _).drew).alloc _) ⟨W.heap.size+1,0,none⟩ 1 1 [.int .i64 o.d,.string o.nm,.slice av m m] (by simp [Act.eval]) rfl (World.news_of_block (haA _ _ (by simp))) ?_ (by decide) ?_ ?_ (Nat.zero_le _) _ rfl ?_;(intro u hu;simp at hu;rcases hu with rfl|rfl|rfl <;> rfl);(unfold maxLen;omega);omega;intro g5 cap5 w5 hown hgrow hg5 hl5;have O5:Hid (w5.ownsRow 0 93 3 (.slice (some ⟨g5,0,none⟩) (n+1) cap5) (n+1) (flatO os++[.int .i64 o.d,.string o.nm,.slice av m m])):=hown;have hb5:=(hgrow.block hb (by simp;omega) (fun e=>HNE.out e.symm)).trans (hkA (hkA HB2.out));have bx5:=(hgrow.block W.heap.size (by simp;omega) (fun e=>by have:=OL.out _ e.symm;omega)).trans (hkA (halloc1 _ _));obtain ⟨y0,y1,y2,yf,yL⟩:=r3c hb5;obtain ⟨x0,x1,x2,xf,xL⟩:=r3c bx5;have T5:Hid (Tch S W w5):=(((Tch.refl S W).alloc _).drew.alloc _).grown hgrow (fun k hk=>.inl (OS.out k hk));have K5:Hid (∀ k,k<W.heap.size→Value.ownBlock (.slice a n c)≠some k→w5.heap[k]?=W.heap[k]?):=(fun k hk hne=>(hgrow.block k (by simp;omega) (fun e=>hne e.symm)).trans ((Below.heap_alloc _ _ _ (by simp;omega)).trans (Below.heap_alloc _ _ _ hk)));have V5:Hid (Value.ownBlock (.slice a n c)=some g5∨W.heap.size≤g5):=hg5.imp id (fun e=>by rw [e];simp;omega);clear hown hgrow hg5 hb5 bx5)
  all_goals have hbw:¬ W.heap.size=hb:=fun e=>hbn e.symm
  all_goals go_upto_region 2 with fail
  all_goals go_region
  all_goals go_wp2
  all_goals
    go_ret
    refine ⟨by simp,?_⟩
    obtain ⟨f1,f2,f3⟩:=FIN.out w5 g5 cap5 ((wd:Int)+(m:Int)) T5.out K5.out O5.out V5.out rfl
    exact ⟨⟨_,f1.mono (fun k hk=>hk.elim (fun x=>f1.sz k (.inl x)) (fun x=>x.2)) (fun k _ hk=>hk.imp id (fun x=>⟨x.1,Nat.lt_of_lt_of_eq x.2 f3.symm⟩))⟩,f2⟩
end Go.Proofs.YtfnmmpkhopochaaGreat
