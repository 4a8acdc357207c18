import Derived.Test.YtlnojhhddinjkaaGreatHqD
import Derived.Laws.EntriesVeiled
set_option maxHeartbeats 4000000
set_option maxRecDepth 100000
namespace Go.Proofs.YtlnojhhddinjkaaGreat
open Go.RowKit Go.Maps
theorem Tryz.hinfoIn:(Tryz.prog.info? 3).map (fun i=>(i.zero,i.size,i.bytes))=some (some (.int .i64 0),1,8):=by kernel_rfl
theorem Zkb (n:Nat) (hn:n≤1000000) (w:World):(Instr.makeSlice 41 (.int .i64 (n:Int)) (.int .i64 (n:Int))).run Tryz.prog w=.ok (.slice (some ⟨w.heap.size,0,none⟩) n n) (w.alloc (.cells (intL (List.replicate n 0)).toArray 3)):=by
 obtain ⟨i0,hi,hz0,hz1,hz2⟩:=info_parts Tryz.hinfoIn
 have:=run_make w (P:=Tryz.prog) 41 3 i0 _ Tryz.underlying41 hi hz0 .i64 .i64 (n:Int) (n:Int) (by omega) (Int.le_refl _) (by rw [hz2];omega) (by omega)
 rw [hz1,Int.toNat_natCast] at this
 rw [this]
 have e:madeCells (Value.int .i64 0).cells (n * 1)=(intL (List.replicate n 0)).toArray:=by
  apply Array.ext
  ·rw [size_madeCells];simp [intL]
  ·intro k h1 h2
   simp [intL,madeCells,Value.cells,Nat.mod_one]
 rw [e]
def clV (fb ab:Nat):Value:=.func (.func 115) #[] #[.pointer (some ⟨fb,0,none⟩),.pointer (some ⟨ab,0,none⟩)]
theorem comp_ok (k:Nat) (nm:ByteArray) (hz:nm.size≤maxLen) (hs:sndB ((k:Int)+1) nm.data.toList=true) (w:World):Calls Tryz.prog 116 #[.agg #[.int .i64 ((k:Int)+1),.string nm]] w fun e w'=>e=.returned (.tuple #[.agg #[.int .i64 (k:Int),.string nm],.int .i64 0])∧Bw w w':=by
 have:=Jz ((k:Int)+1) nm hz w
 have e:cmpE ((k:Int)+1) nm.data.toList=0:=by rw [cmpE,if_pos hs,if_neg (by omega)]
 rw [e] at this
 simpa [outD,outS] using this
theorem arr_one {W:World} {S:Nat→Prop} {hb b fb ab:Nat} {ov:Value} {os:List Ob} (h:HpAt W S hb b ov os) (d:Int) (nm:ByteArray) (g o cap c:Nat) (hc:c≤20000) (hf:W.cell? ⟨fb,0,none⟩=some (.pointer (some ⟨hb,0,none⟩))) (hcs:W.cell? ⟨g,o,none⟩=some (.int .i64 (c:Int))) (hn:os.length<1000) (hw:wdL os+c≤20000) :
 Calls Tryz.prog 115 #[.agg #[.int .i64 d,.string nm],.slice (some ⟨g,o,none⟩) 1 cap,.pointer (some ⟨fb,0,none⟩),.pointer (some ⟨ab,0,none⟩)] W fun e w'=>e=.returned (.int .i64 ((os.length:Int)+1))∧∃ o',HpN S W w' hb b (os++[o'])∧o'.p=(d,nm,List.replicate c 0):=by
 have hmk:=Zkb c (by omega)
 have hfl:fb<W.heap.size:=World.block_lt_of_cell? _ _ hf
 have hgl:g<W.heap.size:=World.block_lt_of_cell? _ _ hcs
 have hfn:¬ fb=W.heap.size:=by omega
 have hgn:¬ g=W.heap.size:=by omega
 obtain ⟨U,hU⟩:∃ U,U=(W.alloc (.cells #[.int .i64 d,.string nm] 40)).alloc (.cells (intL (List.replicate c 0)).toArray 3):=⟨_,rfl⟩
 have HA:Hid (Calls Tryz.prog 75 #[.pointer (some ⟨hb,0,none⟩),.agg #[.int .i64 d,.string nm,.slice (some ⟨W.heap.size+1,0,none⟩) c c]] ((W.alloc (.cells #[.int .i64 d,.string nm] 40)).alloc (.cells (intL (List.replicate c 0)).toArray 3)) fun e w'=>e=.returned (.int .i64 ((os.length:Int)+1))∧∃ o',HpN S W w' hb b (os++[o'])∧o'.p=(d,nm,List.replicate c 0)):=by
  rw [← hU]
  have BU:Bw W U:=by rw [hU];exact ((Below.refl _ _).alloc (Nat.le_refl _) _).alloc (by simp) _
  have hUs:U.heap.size=W.heap.size+2:=by rw [hU];simp
  have hUb:U.heap[W.heap.size+1]?=some (.cells (intL (List.replicate c 0)).toArray 3 (0,0)):=by rw [hU];exact haA _ _ (by simp)
  have hh:HpAt U (fun k=>S k∨k=W.heap.size+1) hb b ov os:=(h.below BU).mono (fun k hk=>by rcases hk with hk|rfl;exact (h.below BU).sz k hk;omega) (fun k _ x=>.inl x)
  have:=add_c hh ⟨d,nm,some (W.heap.size+1),List.replicate c 0⟩ hn (by simpa using hw) (fun e=>by cases e) (fun g hg=>by cases hg;exact ⟨.inr rfl,hUb,fun p hp e=>by have:=h.lte hp e;omega⟩)
  simp only [obV,elV,ebV,List.length_replicate] at this
  refine this.mono fun e w' ⟨h1,⟨v',h2⟩,h3⟩=>⟨h1,_,⟨⟨v',h2.mono ?_ ?_⟩,?_⟩,rfl⟩
  ·intro k hk
   rcases hk with hk|hk
   ·exact Nat.lt_of_lt_of_le (h.sz k hk) (Nat.le_trans BU.size h3.size)
   ·exact hk.2
  ·intro k hk1 hk
   rcases hk with (hk|rfl)|hk
   ·exact .inl hk
   ·exact .inr ⟨by omega,hk1⟩
   ·exact .inr ⟨by omega,hk1⟩
  ·refine ((Tch.refl S W).bel BU).trans h3 (fun k hk hs=>?_)
   rcases hs with hs|rfl
   ·exact hs
   ·omega
 clear h hU hn hw
 go_enter Tryz.func115,Tryz.ntmps115
 go_wp2_with (go_at_call 75;refine HA.out.mono ?_;rintro e w1 ⟨rfl,hx⟩;have N1:Hid _:=hx;clear hx HA)
 all_goals go_ret
 all_goals exact ⟨rfl,N1.out⟩
def ArS (W:World) (S:Nat→Prop) (hb b ge cb:Nat) (d:Int) (nm:ByteArray) (os:List Ob) (c:Nat) (cs:List Nat) (i:Nat) (wr:World):Prop :=
 ∃ S' v new,HpAt wr S' hb b v (os++⟨d,nm,some ge,prtL os.length (szC cs) c i⟩::new)∧new.map Ob.p=(List.range i).flatMap (fun j=>filP nm (d - 1) cs (os.length+1+j * szC cs))∧(∀ k,S' k→S k∨(W.heap.size≤k∧k≠cb))∧Tch S W wr
theorem set_mid {α:Type} (a:List α) (x y:α) (r:List α):(a++x::r).set a.length y=a++y::r:=by
 rw [List.set_append_right _ _ (Nat.le_refl _)];simp
theorem get_mid {α:Type} (a:List α) (x:α) (r:List α):(a++x::r)[a.length]?=some x:=by simp
theorem Zj9 {new:List Ob} {nm:ByteArray} {d:Int} {cs:List Nat} {i m:Nat} (h:new.map Ob.p=(List.range i).flatMap (fun j=>filP nm d cs (m+j * szC cs))):new.length=i * szC cs∧wdL new=i * wdC cs:=by
 constructor
 ·have:=congrArg List.length h
  rwa [List.length_map,Xs _ (szC cs) (fun j=>Zdr nm cs d _) i] at this
 ·have:=congrArg wdP h
  rwa [Zco,Zaf _ (wdC cs) (fun j=>Zgd nm cs d _) i] at this
theorem ArS.next {W:World} {S:Nat→Prop} {hb b ge cb:Nat} {d:Int} {nm:ByteArray} {os:List Ob} {c:Nat} {cs:List Nat} {i:Nat} {wr w':World} {S':Nat→Prop} {v:Value} {new new2:List Ob} (_h:HpAt wr S' hb b v (os++⟨d,nm,some ge,prtL os.length (szC cs) c i⟩::new)) (h2:new.map Ob.p=(List.range i).flatMap (fun j=>filP nm (d - 1) cs (os.length+1+j * szC cs))) (h3:∀ k,S' k→S k∨(W.heap.size≤k∧k≠cb)) (h4:Tch S W wr) (hcb:cb<wr.heap.size)
 (n1:HpN S' wr w' hb b ((os++⟨d,nm,some ge,prtL os.length (szC cs) c i⟩::new)++new2)) (n2:new2.map Ob.p=filP nm (d - 1) cs (os++⟨d,nm,some ge,prtL os.length (szC cs) c i⟩::new).length) (x:Int) (hx:x=((os.length+2+i * szC cs:Nat):Int)) :
 ArS W S hb b ge cb d nm os c cs (i+1) (w'.setCell ⟨ge,i,none⟩ (.int .i64 x)):=by
 obtain ⟨⟨v',hp⟩,ht⟩:=n1
 have hz:=h4.size
 have he:(⟨d,nm,some ge,prtL os.length (szC cs) c i⟩:Ob)∈(os++⟨d,nm,some ge,prtL os.length (szC cs) c i⟩::new)++new2:=by simp
 have hge:=hp.eS _ he ge rfl
 rw [List.append_assoc,List.cons_append] at hp
 have hs:=hp.setEl os.length i ge _ (get_mid _ _ _) rfl x
 rw [set_mid] at hs
 simp only [hx,Zg0] at hs
 refine ⟨_,v',new++new2,by rw [hx];exact hs,?_,?_,?_⟩
 ·rw [List.map_append,h2,n2,List.range_succ,List.flatMap_append,List.flatMap_singleton]
  congr 2
  rw [List.length_append,List.length_cons,(Zj9 h2).1];omega
 ·intro k hk
  rcases hk with hk|hk
  ·exact h3 k hk
  ·exact .inr ⟨by omega,by omega⟩
 ·refine (h4.trans ht (fun k hk hs=>?_)).set (p:=⟨ge,i,none⟩) ?_ _
  ·rcases h3 k hs with e|e
   ·exact e
   ·omega
  ·rcases hge with e|e
   ·rcases h3 ge e with e|e
    ·exact .inl e
    ·exact .inr e.1
   ·exact .inr (by show W.heap.size≤ge;omega)
theorem ArS.done {W:World} {S:Nat→Prop} {hb b ge cb:Nat} {d:Int} {nm:ByteArray} {os:List Ob} {c:Nat} {cs:List Nat} {wr:World} (hS:∀ k,S k→k<W.heap.size) (hcs:cs≠[]) (h:ArS W S hb b ge cb d nm os c cs c wr):∃ new,HpN S W wr hb b (os++new)∧new.map Ob.p=filP nm d (c::cs) os.length:=by
 obtain ⟨S',v,new,h1,h2,h3,h4⟩:=h
 refine ⟨_::new,⟨⟨v,h1.mono ?_ ?_⟩,h4⟩,?_⟩
 ·intro k hk
  exact hk.elim (fun x=>Nat.lt_of_lt_of_le (hS k x) h4.size) (fun x=>x.2)
 ·intro k hk hs
  rcases h3 k hs with e|e
  ·exact .inl e
  ·exact .inr ⟨e.1,hk⟩
 ·rw [List.map_cons,h2,filP,Ob.p,Zg1]
  simp only [if_neg hcs]
theorem arr_many {W:World} {S:Nat→Prop} {hb b fb ab:Nat} {ov:Value} {os:List Ob} (h:HpAt W S hb b ov os) (k:Nat) (nm:ByteArray) (hz:nm.size≤maxLen) (hsn:sndB ((k:Int)+1) nm.data.toList=true) (g o cap c n:Nat) (cs:List Nat) (hcs:cs≠[]) (_HN:Hid (cs.length=n)) (hn0:0<n) (hn9:n≤1000000) (hcap:n+1≤cap) (hf:W.cell? ⟨fb,0,none⟩=some (.pointer (some ⟨hb,0,none⟩))) (ha:W.cell? ⟨ab,0,none⟩=some (clV fb ab)) (hc0:W.cell? ⟨g,o,none⟩=some (.int .i64 (c:Int)))
 (hSf:¬ S fb) (hSa:¬ S ab) (hSg:¬ S g) (hl:os.length+(1+c * szC cs)≤1000) (hw:wdL os+(c+c * wdC cs)≤20000)
 (IH:Hid (∀ (w:World) (S':Nat→Prop) (v:Value) (os':List Ob),HpAt w S' hb b v os'→w.heap[g]?=W.heap[g]?→w.cell? ⟨fb,0,none⟩=some (.pointer (some ⟨hb,0,none⟩))→w.cell? ⟨ab,0,none⟩=some (clV fb ab)→¬ S' fb→¬ S' ab→¬ S' g→os'.length+szC cs≤1000→wdL os'+wdC cs≤20000→Calls Tryz.prog 115 #[.agg #[.int .i64 (k:Int),.string nm],.slice (some ⟨g,o+1,none⟩) n (cap - 1),.pointer (some ⟨fb,0,none⟩),.pointer (some ⟨ab,0,none⟩)] w fun e w'=>e=.returned (.int .i64 ((os'.length:Int)+1))∧∃ new,HpN S' w w' hb b (os'++new)∧new.map Ob.p=filP nm (k:Int) cs os'.length)) :
 Calls Tryz.prog 115 #[.agg #[.int .i64 ((k:Int)+1),.string nm],.slice (some ⟨g,o,none⟩) (n+1) cap,.pointer (some ⟨fb,0,none⟩),.pointer (some ⟨ab,0,none⟩)] W fun e w'=>e=.returned (.int .i64 ((os.length:Int)+1))∧∃ new,HpN S W w' hb b (os++new)∧new.map Ob.p=filP nm ((k:Int)+1) (c::cs) os.length:=by
 have hc:c≤20000:=by have:c≤c+c * wdC cs:=Nat.le_add_right _ _;omega
 have hmk:=Zkb c (by omega)
 have hfl:fb<W.heap.size:=World.block_lt_of_cell? _ _ hf
 have hal:ab<W.heap.size:=World.block_lt_of_cell? _ _ ha
 have hgl:g<W.heap.size:=World.block_lt_of_cell? _ _ hc0
 have hfn:¬ fb=W.heap.size:=by omega
 have hgn:¬ g=W.heap.size:=by omega
 obtain ⟨U,hU⟩:∃ U,U=(W.alloc (.cells #[.int .i64 ((k:Int)+1),.string nm] 40)).alloc (.cells (intL (List.replicate c 0)).toArray 3):=⟨_,rfl⟩
 have BU:Hid (Bw W U):=by rw [hU];exact ((Below.refl _ _).alloc (Nat.le_refl _) _).alloc (by simp) _
 have hUs:U.heap.size=W.heap.size+2:=by rw [hU];simp
 have hUb:Hid (U.heap[W.heap.size+1]?=some (.cells (intL (List.replicate c 0)).toArray 3 (0,0))):=by rw [hU];exact haA _ _ (by simp)
 have hUt:Hid (U.heap[W.heap.size]?=some (.cells #[.int .i64 ((k:Int)+1),.string nm] 40 (0,0))):=by rw [hU];exact hkA (Zg _ _)
 have HA:Hid (Calls Tryz.prog 75 #[.pointer (some ⟨hb,0,none⟩),.agg #[.int .i64 ((k:Int)+1),.string nm,.slice (some ⟨W.heap.size+1,0,none⟩) c c]] U fun e w'=>e=.returned (.int .i64 ((os.length:Int)+1))∧(∃ v',HpAt w' (gS (fun k=>S k∨k=W.heap.size+1) U.heap.size w'.heap.size) hb b v' (os++[⟨(k:Int)+1,nm,some (W.heap.size+1),List.replicate c 0⟩]))∧Tch (fun k=>S k∨k=W.heap.size+1) U w'):=by
  have hh:HpAt U (fun k=>S k∨k=W.heap.size+1) hb b ov os:=(h.below BU.out).mono (fun k hk=>by rcases hk with hk|rfl;exact (h.below BU.out).sz k hk;omega) (fun k _ x=>.inl x)
  have:=add_c hh ⟨(k:Int)+1,nm,some (W.heap.size+1),List.replicate c 0⟩ (by omega) (by simp;omega) (fun e=>by cases e) (fun g hg=>by cases hg;exact ⟨.inr rfl,hUb.out,fun p hp e=>by have:=h.lte hp e;omega⟩)
  simp only [obV,elV,ebV,List.length_replicate] at this
  exact this
 have HS:Hid (∀ k,S k→k<W.heap.size):=h.sz
 have HT:Hid (∀ w:World,Calls Tryz.prog 116 #[.agg #[.int .i64 ((k:Int)+1),.string nm]] w fun e w'=>e=.returned (.tuple #[.agg #[.int .i64 (k:Int),.string nm],.int .i64 0])∧Bw w w'):=comp_ok k nm hz hsn
 have HUE:Hid (U=(W.alloc (.cells #[.int .i64 ((k:Int)+1),.string nm] 40)).alloc (.cells (intL (List.replicate c 0)).toArray 3)):=hU
 have HL:Hid (os.length+(1+c * szC cs)≤1000):=hl
 have HW:Hid (wdL os+(c+c * wdC cs)≤20000):=hw
 have HSf:Hid (¬ S fb):=hSf
 have HSa:Hid (¬ S ab):=hSa
 have HSg:Hid (¬ S g):=hSg
 have HCS:Hid (cs≠[]):=hcs
 have g1:¬ ((n:Int)+1<1):=by omega
 have g2:(0:Int)<(n:Int):=by omega
 have HF0:Hid (W.cell? ⟨fb,0,none⟩=some (.pointer (some ⟨hb,0,none⟩))):=hf
 have HA0:Hid (W.cell? ⟨ab,0,none⟩=some (clV fb ab)):=ha
 clear h hU hl hw hsn hz hSf hSa hSg hcs hUb ha
 go_enter Tryz.func115,Tryz.ntmps115
 go_wp2_with (first
  | (go_at_call 75;rw [← HUE.out];refine HA.out.mono ?_;rintro e w1 ⟨rfl,⟨v1,hp1⟩,ht1⟩;have P1:Hid _:=hp1;have T1:Hid (Tch (fun k=>S k∨k=W.heap.size+1) U w1):=ht1;have hz1:=ht1.size;have tb:=(ht1.blk W.heap.size (by omega) (fun x=>by rcases x with x|x;have:=HS.out _ x;omega;omega)).trans hUt.out;have TB:Hid _:=tb;obtain ⟨t0,t1,tf,tL⟩:=r2c tb;clear tb hp1 ht1 HA)
  | (go_at_call 116;refine (HT.out _).mono ?_;rintro e w2 ⟨rfl,hB⟩;have B2:Hid (Bw w1 w2):=hB;have hz2:=hB.size;clear hB HT))
 have AR:Hid (ArS W S hb b (W.heap.size+1) w2.heap.size ((k:Int)+1) nm os c cs 0 (w2.alloc (.cells #[.int .i64 (k:Int),.string nm] 40))):=by
  have B3:Bw w1 (w2.alloc (.cells #[.int .i64 (k:Int),.string nm] 40)):=B2.out.alloc hz2 _
  refine ⟨_,v1,[],by rw [prtL_0];exact P1.out.below B3,rfl,fun x hx=>?_,?_⟩
  ·rcases hx with (hx|rfl)|hx
   ·exact .inl hx
   ·exact .inr ⟨by omega,by omega⟩
   ·exact .inr ⟨by omega,by omega⟩
  ·refine (((Tch.refl S W).bel BU.out).trans T1.out (fun x hx hs=>?_)).bel B3
   rcases hs with hs|rfl
   ·exact hs
   ·omega
 have CB:Hid ((w2.alloc (.cells #[.int .i64 (k:Int),.string nm] 40)).heap[w2.heap.size]?=some (.cells #[.int .i64 (k:Int),.string nm] 40 (0,0))):=Zg _ _
 clear t0 t1 tf tL TB P1 T1
 go_loopw [34] (fun iv wr=>∃ i:Nat,iv=.int .i64 i∧i≤c∧Hid (ArS W S hb b (W.heap.size+1) w2.heap.size ((k:Int)+1) nm os c cs i wr)∧Hid (wr.heap[w2.heap.size]?=some (.cells #[.int .i64 (k:Int),.string nm] 40 (0,0)))) (fun iv _=>c - (intOf iv).toNat)
 case atStart=>exact ⟨0,rfl,Nat.zero_le _,AR,CB⟩
 case round =>
  obtain ⟨i,rfl,hi,HR,HCB⟩:=hrel
  clear AR CB
  by_cases hlt:i<c
  ·obtain ⟨S',v,new,h1,h2,h3,h4⟩:=HR.out
   have hltI:(i:Int)<(c:Int):=by omega
   obtain ⟨l1,l2⟩:=Zj9 h2
   obtain ⟨M,hM⟩:∃ M,(os++⟨(k:Int)+1,nm,some (W.heap.size+1),prtL os.length (szC cs) c i⟩::new).length=M:=⟨_,rfl⟩
   have hM2:M=os.length+1+i * szC cs:=by rw [← hM,List.length_append,List.length_cons,l1];omega
   have hWL:wdL (os++⟨(k:Int)+1,nm,some (W.heap.size+1),prtL os.length (szC cs) c i⟩::new)=wdL os+(c+i * wdC cs):=by rw [Zfl,wdL,l2,Jn]
   have m1:i * szC cs+szC cs≤c * szC cs:=by have:=Nat.mul_le_mul_right (szC cs) (show i+1≤c by omega);rwa [Nat.succ_mul] at this
   have m2:i * wdC cs+wdC cs≤c * wdC cs:=by have:=Nat.mul_le_mul_right (wdC cs) (show i+1≤c by omega);rwa [Nat.succ_mul] at this
   have q1:=HL.out
   have q2:=HW.out
   have yf:wr.cell? ⟨fb,0,none⟩=some (.pointer (some ⟨hb,0,none⟩)):=(World.cell?_of_block (h4.blk fb hfl HSf.out)).trans HF0.out
   have ya:wr.cell? ⟨ab,0,none⟩=some (clV fb ab):=(World.cell?_of_block (h4.blk ab hal HSa.out)).trans HA0.out
   have HI:=IH.out wr S' v _ h1 (h4.blk g hgl HSg.out) yf ya (fun x=>(h3 fb x).elim HSf.out (fun y=>by omega)) (fun x=>(h3 ab x).elim HSa.out (fun y=>by omega)) (fun x=>(h3 g x).elim HSg.out (fun y=>by omega)) (by rw [hM];omega) (by rw [hWL];omega)
   rw [hM] at HI
   obtain ⟨z0,z1,zf,zL⟩:=r2c HCB.out
   have NX:Hid (∀ w' new2,HpN S' wr w' hb b ((os++⟨(k:Int)+1,nm,some (W.heap.size+1),prtL os.length (szC cs) c i⟩::new)++new2)→new2.map Ob.p=filP nm (k:Int) cs M→(∃ u,w'.cell? ⟨W.heap.size+1,i,none⟩=some (.int .i64 u))∧w'.frozen? ⟨W.heap.size+1,i,none⟩=false∧ArS W S hb b (W.heap.size+1) w2.heap.size ((k:Int)+1) nm os c cs (i+1) (w'.setCell ⟨W.heap.size+1,i,none⟩ (.int .i64 ((M:Int)+1)))∧(w'.setCell ⟨W.heap.size+1,i,none⟩ (.int .i64 ((M:Int)+1))).heap[w2.heap.size]?=some (.cells #[.int .i64 (k:Int),.string nm] 40 (0,0))):=fun w' new2 n1 n2=>by
    obtain ⟨⟨v',hp⟩,ht⟩:=n1
    have hblk:=hp.el ⟨(k:Int)+1,nm,some (W.heap.size+1),prtL os.length (szC cs) c i⟩ (by simp) _ rfl
    refine ⟨⟨(prtL os.length (szC cs) c i)[i]'(by rw [Jn];exact hlt),?_⟩,frozen_of_row w' _ i _ _ hblk,ArS.next h1 h2 h3 h4 zL ⟨⟨v',hp⟩,ht⟩ (by rw [hM,show (k:Int)+1 - 1=k by omega];exact n2) _ (by rw [hM2];omega),?_⟩
    ·rw [cell_of_row w' _ i _ _ _ hblk]
     simp [intL,Jn,hlt]
    ·rw [Below.heap_setCell _ _ _ _ (by simp;omega)]
     exact (ht.blk _ zL (fun x=>(h3 _ x).elim (fun y=>by have:=HS.out _ y;omega) (fun y=>y.2 rfl))).trans HCB.out
   have HI2:Hid (Calls Tryz.prog 115 #[.agg #[.int .i64 (k:Int),.string nm],.slice (some ⟨g,o+1,none⟩) n (cap - 1),.pointer (some ⟨fb,0,none⟩),.pointer (some ⟨ab,0,none⟩)] wr fun e w'=>e=.returned (.int .i64 ((M:Int)+1))∧∃ new2,HpN S' wr w' hb b ((os++⟨(k:Int)+1,nm,some (W.heap.size+1),prtL os.length (szC cs) c i⟩::new)++new2)∧new2.map Ob.p=filP nm (k:Int) cs M):=HI
   unfold clV at ya
   clear HI h1 h2 h3 h4 l1 l2 m1 m2 q1 q2 hWL hM2 hM HR HCB IH HL HW
   go_wp2_with (go_at_call 115;refine HI2.out.mono ?_;rintro e w3 ⟨rfl,new2,n1,n2⟩;obtain ⟨⟨u,ye⟩,ye2,AR3,CB3⟩:=NX.out w3 new2 n1 n2;have AR4:Hid _:=AR3;have CB4:Hid _:=CB3;clear n1 n2 AR3 CB3 NX)
   go_roundw
   case rel=>exact ⟨i+1,by go_num,by omega,AR4,CB4⟩
   case measure=>simp [intOf];omega
  ·obtain rfl:i=c:=by omega
   have hltI:¬ (i:Int)<(i:Int):=by omega
   have RES:Hid _:=ArS.done HS.out HCS.out HR.out
   clear HR HCB IH
   go_wp2
   go_ret
   exact ⟨rfl,RES.out⟩
theorem Zhj (nm:ByteArray) (d:Int) (c n:Nat):filP nm d [c] n=[(d,nm,List.replicate c 0)]:=by
 have e:∀ c:Nat,(List.range c).flatMap (fun _:Nat=>([]:List PO))=[]:=fun c=>by simp
 rw [filP]
 simp only [filP,if_pos]
 rw [e]
 congr 3
 apply List.ext_getElem?
 intro k
 by_cases h:k<c <;> simp [h]
theorem snd_step {k:Nat} {l:List UInt8} (h:sndB ((k:Int)+1) l=true):sndB (k:Int) l=true:=by
 unfold sndB at h ⊢
 simp only [Bool.and_eq_true,decide_eq_true_eq] at h ⊢
 exact ⟨⟨by omega,by omega⟩,h.2⟩
theorem arr_c (nm:ByteArray) (hz:nm.size≤maxLen) (hb b fb ab:Nat):∀ (cs:List Nat) (c:Nat) (W:World) (S:Nat→Prop) (ov:Value) (os:List Ob) (d g o cap:Nat),HpAt W S hb b ov os→CsAt W g o (c::cs)→W.cell? ⟨fb,0,none⟩=some (.pointer (some ⟨hb,0,none⟩))→W.cell? ⟨ab,0,none⟩=some (clV fb ab)→¬ S fb→¬ S ab→¬ S g→cs.length+1≤d→sndB (d:Int) nm.data.toList=true→cs.length+1≤cap→cs.length≤1000000→os.length+szC (c::cs)≤1000→wdL os+wdC (c::cs)≤20000 →
 Calls Tryz.prog 115 #[.agg #[.int .i64 (d:Int),.string nm],.slice (some ⟨g,o,none⟩) (cs.length+1) cap,.pointer (some ⟨fb,0,none⟩),.pointer (some ⟨ab,0,none⟩)] W fun e w'=>e=.returned (.int .i64 ((os.length:Int)+1))∧∃ new,HpN S W w' hb b (os++new)∧new.map Ob.p=filP nm (d:Int) (c::cs) os.length
 | [],c,W,S,ov,os,d,g,o,cap,h,hcs,hf,ha,s1,s2,s3,hd,hsn,hcap,h9,hl,hw=>by
   simp only [szC,wdC,Nat.mul_zero,Nat.add_zero] at hl hw
   refine (arr_one (ab:=ab) h (d:Int) nm g o cap c (by omega) hf (hcs 0 c rfl) (by omega) hw).mono ?_
   rintro e w' ⟨rfl,o',h1,h2⟩
   exact ⟨rfl,[o'],h1,by rw [Zhj];simp [h2]⟩
 | c2::r,c,W,S,ov,os,d,g,o,cap,h,hcs,hf,ha,s1,s2,s3,hd,hsn,hcap,h9,hl,hw=>by
   obtain ⟨k,rfl⟩:∃ k,d=k+1:=⟨d - 1,by simp at hd;omega⟩
   have hsn':sndB ((k:Int)+1) nm.data.toList=true:=by simpa using hsn
   refine arr_many (ab:=ab) h k nm hz hsn' g o cap c (c2::r).length (c2::r) (by simp) rfl (by simp) h9 hcap hf ha (hcs 0 c rfl) s1 s2 s3 hl hw ?_
   intro w S' v os' h1 h2 h3 h4 h5 h6 h7 h8 h9'
   exact arr_c nm hz hb b fb ab r c2 w S' v os' k g (o+1) (cap - 1) h1 (hcs.drop.keep h2) h3 h4 h5 h6 h7 (by simp at hd ⊢;omega) (snd_step hsn') (by simp at hcap ⊢;omega) (by simp at h9;omega) h8 h9'
theorem room_c {W:World} {S:Nat→Prop} {hb b:Nat} {ov:Value} {os:List Ob} (h:HpAt W S hb b ov os) {g o cap:Nat} (cs:List Nat) (hN:cs.length≤1000000) (HC:CsAt W g o cs) :
 Calls Tryz.prog 114 #[.pointer (some ⟨hb,0,none⟩),.slice (some ⟨g,o,none⟩) cs.length cap] W fun e w'=>e=.returned (.bool (rmB os cs))∧Bw W w':=by
 obtain ⟨c0,c1,c2,fz,hl⟩:=h.cells
 obtain ⟨a,c,rfl⟩:=ownv h.ow
 exact room_w cs h.n1 h.n2 rfl hN HC c1 c2
def IsAt (w:World) (g o:Nat) (xs:List Int):Prop:=∀ (i:Nat) (x:Int),xs[i]?=some x→w.cell? ⟨g,o+i,none⟩=some (.int .i64 x)
theorem IsAt.keep {w w':World} {g o:Nat} {xs:List Int} (h:IsAt w g o xs) (hk:w'.heap[g]?=w.heap[g]?):IsAt w' g o xs:=fun i x hx=>by
 rw [← h i x hx]
 exact World.cell?_of_block hk
def negB (xs:List Int):Bool:=xs.any fun x=>decide (x<0)
theorem fill_neg {W:World} {hb g o cap n:Nat} {xs:List Int} (HN:Hid (xs.length=n)) (hn9:n≤1000000) (d:Int) (nm:ByteArray) (HX:Hid (IsAt W g o xs)) (HG:Hid (negB xs=true)) :
 Calls Tryz.prog 73 #[.pointer (some ⟨hb,0,none⟩),.agg #[.int .i64 d,.string nm],.slice (some ⟨g,o,none⟩) n cap] W fun e w'=>e=.returned (.tuple #[.int .i64 0,.int .i64 30])∧Bw W w':=by
 go_enter Tryz.func73,Tryz.ntmps73
 go_wp2
 go_loopw [13] (fun iv wr=>∃ i:Nat,iv=.int .i64 i∧i≤n∧Hid (negB (xs.drop i)=true)∧Bw W wr) (fun iv _=>n - (intOf iv).toNat)
 case atStart=>exact ⟨0,rfl,Nat.zero_le _,HG,((Below.refl _ _).alloc (Nat.le_refl _) _).alloc (by simp) _⟩
 case round =>
  obtain ⟨i,rfl,hi,HR,hbl⟩:=hrel
  have HBL:Hid (Bw W wr):=hbl
  clear hbl
  by_cases hlt:i<n
  ·obtain ⟨x,hx⟩:∃ x,xs[i]?=some x:=⟨_,List.getElem?_eq_getElem (by rw [HN.out];exact hlt)⟩
   have y0:=HX.out i x hx
   have y:wr.cell? ⟨g,o+i,none⟩=some (.int .i64 x):=(HBL.out.cell (p:=⟨g,o+i,none⟩) (World.block_lt_of_cell? W _ y0)).trans y0
   have hltI:(i:Int)<(n:Int):=by omega
   have HD:negB (xs.drop i)=(decide (x<0)||negB (xs.drop (i+1))):=by
    obtain ⟨h1,h2⟩:=List.getElem?_eq_some_iff.1 hx
    rw [List.drop_eq_getElem_cons h1,h2,negB,List.any_cons];rfl
   by_cases h0:x<0
   ·clear y0 hx HX HD HR HN HG
    go_wp2
    go_ret2
    exact ⟨rfl,HBL.out⟩
   ·have HR2:Hid (negB (xs.drop (i+1))=true):=by rw [Hid];have:=HR.out;rw [HD] at this;simpa [h0] using this
    clear y0 hx HX HD HR HN HG
    go_wp2
    go_roundw
    case rel=>exact ⟨i+1,by go_num,by omega,HR2,HBL.out⟩
    case measure=>simp [intOf];omega
  ·obtain rfl:i=n:=by omega
   have:=HR.out
   rw [List.drop_eq_nil_of_le (by rw [HN.out];exact Nat.le_refl _)] at this
   cases this
def natI (cs:List Nat):List Int:=cs.map fun x:Nat=>(x:Int)
theorem Zf3 {cs:List Nat} {i x:Nat} (h:cs[i]?=some x):(natI cs)[i]?=some (x:Int):=by simp [natI,h]
theorem IsAt.cs {w:World} {g o:Nat} {cs:List Nat} (h:IsAt w g o (natI cs)):CsAt w g o cs:=fun i x hx=>h i x (Zf3 hx)
theorem fill_no {W:World} {S:Nat→Prop} {hb b:Nat} {ov:Value} {os:List Ob} (h:HpAt W S hb b ov os) {g o cap n c:Nat} {cs:List Nat} (HN:cs.length+1=n) (hn9:n≤1000000) (d:Nat) (nm:ByteArray) (HX:IsAt W g o (natI (c::cs))) (hB:rmB os (c::cs)=false) :
 Calls Tryz.prog 73 #[.pointer (some ⟨hb,0,none⟩),.agg #[.int .i64 (d:Int),.string nm],.slice (some ⟨g,o,none⟩) n cap] W fun e w'=>e=.returned (.tuple #[.int .i64 0,.int .i64 32])∧Bw W w':=by
 obtain ⟨U,hU⟩:∃ U,U=(W.alloc (.cells #[.pointer (some ⟨hb,0,none⟩)] 26)).alloc (.cells #[.int .i64 (d:Int),.string nm] 40):=⟨_,rfl⟩
 have BU:Hid (Bw W U):=by rw [hU];exact ((Below.refl _ _).alloc (Nat.le_refl _) _).alloc (by simp) _
 have hUs:U.heap.size=W.heap.size+2:=by rw [hU];simp
 have f0:Hid (U.heap[W.heap.size]?=some (.cells #[.pointer (some ⟨hb,0,none⟩)] 26 (0,0))):=by rw [hU];exact hkA (Zg _ _)
 have hgl:g<W.heap.size:=World.block_lt_of_cell? W _ (HX 0 (c:Int) rfl)
 have HR:Hid (∀ w,Bw W w→Calls Tryz.prog 114 #[.pointer (some ⟨hb,0,none⟩),.slice (some ⟨g,o,none⟩) n cap] w fun e w'=>e=.returned (.bool (rmB os (c::cs)))∧Bw w w'):=fun w hw=>by
  have:=room_c (h.below hw) (g:=g) (o:=o) (cap:=cap) (c::cs) (by simp;omega) ((HX.cs).keep (hw.block g hgl))
  rwa [List.length_cons,HN] at this
 have HY:Hid (∀ i,i<n→∃ x:Nat,U.cell? ⟨g,o+i,none⟩=some (.int .i64 (x:Int))):=fun i hi=>by
  obtain ⟨x,hx⟩:∃ x,(c::cs)[i]?=some x:=⟨_,List.getElem?_eq_getElem (by simp;omega)⟩
  exact ⟨x,(BU.out.cell (p:=⟨g,o+i,none⟩) hgl).trans (HX i (x:Int) (Zf3 hx))⟩
 have HUE:Hid (U=(W.alloc (.cells #[.pointer (some ⟨hb,0,none⟩)] 26)).alloc (.cells #[.int .i64 (d:Int),.string nm] 40)):=hU
 rw [hB] at HR
 clear h HX hU hB HN
 go_enter Tryz.func73,Tryz.ntmps73
 go_wp2
 rw [← HUE.out]
 go_loopw [13] (fun iv wr=>∃ i:Nat,iv=.int .i64 i∧i≤n∧wr=U) (fun iv _=>n - (intOf iv).toNat)
 case atStart=>exact ⟨0,rfl,Nat.zero_le _,rfl⟩
 case round =>
  obtain ⟨i,rfl,hi,rfl⟩:=hrel
  by_cases hlt:i<n
  ·obtain ⟨x,y⟩:=HY.out i hlt
   have hltI:(i:Int)<(n:Int):=by omega
   have h0:¬ (x:Int)<0:=by omega
   clear HR HY
   go_wp2
   go_roundw
   case rel=>exact ⟨i+1,by go_num,by omega,by first|rfl|trivial⟩
   case measure=>simp [intOf];omega
  ·obtain rfl:i=n:=by omega
   have hltI:¬ (i:Int)<(i:Int):=by omega
   obtain ⟨z0,zf,zL⟩:=r1c f0.out
   go_wp2_with (go_at_call 114;refine (HR.out _ BU.out).mono ?_;rintro e w1 ⟨rfl,hB⟩;have B1:Hid (Bw W w1):=Za BU.out hB;clear hB)
   go_ret2
   exact ⟨rfl,B1.out⟩
theorem fill_yes {W:World} {S:Nat→Prop} {hb b:Nat} {ov:Value} {os:List Ob} (h:HpAt W S hb b ov os) {g o cap n c:Nat} {cs:List Nat} (HN:cs.length+1=n) (hn9:n≤1000000) (hcap:n≤cap) (d:Nat) (nm:ByteArray) (hz:nm.size≤maxLen) (hsn:sndB (d:Int) nm.data.toList=true) (hd:n≤d) (HX:IsAt W g o (natI (c::cs))) (hSg:¬ S g) (hB:rmB os (c::cs)=true) :
 Calls Tryz.prog 73 #[.pointer (some ⟨hb,0,none⟩),.agg #[.int .i64 (d:Int),.string nm],.slice (some ⟨g,o,none⟩) n cap] W fun e w'=>e=.returned (.tuple #[.int .i64 ((os.length:Int)+1),.int .i64 0])∧∃ new,HpN S W w' hb b (os++new)∧new.map Ob.p=filP nm (d:Int) (c::cs) os.length:=by
 obtain ⟨U,hU⟩:∃ U,U=(W.alloc (.cells #[.pointer (some ⟨hb,0,none⟩)] 26)).alloc (.cells #[.int .i64 (d:Int),.string nm] 40):=⟨_,rfl⟩
 have BU:Hid (Bw W U):=by rw [hU];exact ((Below.refl _ _).alloc (Nat.le_refl _) _).alloc (by simp) _
 have hUs:U.heap.size=W.heap.size+2:=by rw [hU];simp
 have f0:Hid (U.heap[W.heap.size]?=some (.cells #[.pointer (some ⟨hb,0,none⟩)] 26 (0,0))):=by rw [hU];exact hkA (Zg _ _)
 have t0:Hid (U.heap[W.heap.size+1]?=some (.cells #[.int .i64 (d:Int),.string nm] 40 (0,0))):=by rw [hU];exact haA _ _ (by simp)
 have hgl:g<W.heap.size:=World.block_lt_of_cell? W _ (HX 0 (c:Int) rfl)
 have HR:Hid (∀ w,Bw W w→Calls Tryz.prog 114 #[.pointer (some ⟨hb,0,none⟩),.slice (some ⟨g,o,none⟩) n cap] w fun e w'=>e=.returned (.bool (rmB os (c::cs)))∧Bw w w'):=fun w hw=>by
  have:=room_c (h.below hw) (g:=g) (o:=o) (cap:=cap) (c::cs) (by simp;omega) ((HX.cs).keep (hw.block g hgl))
  rwa [List.length_cons,HN] at this
 have HA:Hid (∀ w ab,Bw W w→w.cell? ⟨W.heap.size,0,none⟩=some (.pointer (some ⟨hb,0,none⟩))→w.cell? ⟨ab,0,none⟩=some (clV W.heap.size ab)→W.heap.size≤ab→Calls Tryz.prog 115 #[.agg #[.int .i64 (d:Int),.string nm],.slice (some ⟨g,o,none⟩) n cap,.pointer (some ⟨W.heap.size,0,none⟩),.pointer (some ⟨ab,0,none⟩)] w fun e w'=>e=.returned (.int .i64 ((os.length:Int)+1))∧∃ new,HpN S W w' hb b (os++new)∧new.map Ob.p=filP nm (d:Int) (c::cs) os.length):=fun w ab hw w1 w2 h3=>by
  have hr2:os.length+szC (c::cs)≤1000∧wdL os+wdC (c::cs)≤20000:=by simpa [rmB] using hB
  have:=arr_c nm hz hb b W.heap.size ab cs c w S ov os d g o cap (h.below hw) ((HX.cs).keep (hw.block g hgl)) w1 w2 (fun x=>by have:=h.sz _ x;omega) (fun x=>by have:=h.sz _ x;omega) hSg (by omega) hsn (by omega) (by omega) hr2.1 hr2.2
  rw [HN] at this
  exact this.mono fun e w' ⟨a1,new,a2,a3⟩=>⟨a1,new,a2.pre hw,a3⟩
 have HY:Hid (∀ i,i<n→∃ x:Nat,U.cell? ⟨g,o+i,none⟩=some (.int .i64 (x:Int))):=fun i hi=>by
  obtain ⟨x,hx⟩:∃ x,(c::cs)[i]?=some x:=⟨_,List.getElem?_eq_getElem (by simp;omega)⟩
  exact ⟨x,(BU.out.cell (p:=⟨g,o+i,none⟩) hgl).trans (HX i (x:Int) (Zf3 hx))⟩
 have HUE:Hid (U=(W.alloc (.cells #[.pointer (some ⟨hb,0,none⟩)] 26)).alloc (.cells #[.int .i64 (d:Int),.string nm] 40)):=hU
 rw [hB] at HR
 clear h HX hz hsn hd hSg hU hB HN
 go_enter Tryz.func73,Tryz.ntmps73
 go_wp2
 rw [← HUE.out]
 go_loopw [13] (fun iv wr=>∃ i:Nat,iv=.int .i64 i∧i≤n∧wr=U) (fun iv _=>n - (intOf iv).toNat)
 case atStart=>exact ⟨0,rfl,Nat.zero_le _,rfl⟩
 case round =>
  obtain ⟨i,rfl,hi,rfl⟩:=hrel
  by_cases hlt:i<n
  ·obtain ⟨x,y⟩:=HY.out i hlt
   have hltI:(i:Int)<(n:Int):=by omega
   have h0:¬ (x:Int)<0:=by omega
   clear HR HA HY
   go_wp2
   go_roundw
   case rel=>exact ⟨i+1,by go_num,by omega,by first|rfl|trivial⟩
   case measure=>simp [intOf];omega
  ·obtain rfl:i=n:=by omega
   have hltI:¬ (i:Int)<(i:Int):=by omega
   obtain ⟨z0,zf,zL⟩:=r1c f0.out
   go_wp2_with (first
    | (go_at_call 114;refine (HR.out _ BU.out).mono ?_;rintro e w1 ⟨rfl,hB⟩;have B1:Hid (Bw W w1):=Za BU.out hB;obtain ⟨xB,x0,xf,xL,xN⟩:=k1c (n:=W.heap.size) hB (by omega) f0.out;obtain ⟨yB,y0,y1,yf,yL,yN⟩:=k2c (n:=W.heap.size+1) hB (by omega) t0.out;clear hB)
    | (go_at_call 115;refine (HA.out _ w1.heap.size (B1.out.alloc B1.out.size _) (r1c (hkA xB.out)).1 (r1c (Zg w1 _)).1 B1.out.size).mono ?_;rintro e w2 ⟨rfl,hx⟩;have R2:Hid _:=hx;clear hx))
   go_ret2
   exact ⟨rfl,R2.out⟩
def RhN (S:Nat→Prop) (W w':World) (r b:Nat) (es:List Dv):Prop:=(∃ tv ev,RhAt w' (gS S W.heap.size w'.heap.size) r b tv ev es)∧Tch S W w'
theorem Zce:∀ (vs:List (Bool×Int)) (k:Nat) (a c:Bool) (x:Int),vs[k]?=some (a,x)→Ya (vs.set k (c,x))=(Ya vs).set (k * 2) (.bool c)
 | [],k,a,c,x,h=>by simp at h
 | p::r,0,a,c,x,h=>by simp at h;subst h;simp [Ya]
 | p::r,k+1,a,c,x,h=>by
   rw [List.set_cons_succ,Ya,Ya,Zce r k a c x (by simpa using h),show (k+1) * 2=k * 2+1+1 by omega]
   simp
def prV (n:Nat) (R:Bool) (i:Nat):List (Bool×Int):=(List.range n).map fun j=>if j<i then (R,0) else (false,0)
theorem Zfw (n:Nat) (R:Bool) (i:Nat):(prV n R i).length=n:=by simp [prV]
theorem prV_0 (n:Nat) (R:Bool):prV n R 0=List.replicate n (false,0):=by
 apply List.ext_getElem?
 intro k
 by_cases h:k<n <;> simp [prV,h]
theorem prV_all (n:Nat) (R:Bool):prV n R n=List.replicate n (R,0):=by
 apply List.ext_getElem?
 intro k
 by_cases h:k<n <;> simp [prV,h]
theorem prV_at {n:Nat} (R:Bool) {i:Nat} (h:i<n):(prV n R i)[i]?=some (false,0):=by simp [prV,h]
theorem prV_set {n:Nat} (R:Bool) {i:Nat} (h:i<n):(prV n R i).set i (R,0)=prV n R (i+1):=by
 apply List.ext_getElem?
 intro k
 rw [List.getElem?_set]
 by_cases e:i=k
 ·subst e;rw [if_pos rfl,if_pos (by rw [Zfw];exact h)];simp [prV,h]
 ·rw [if_neg e]
  by_cases hk:k<n
  ·simp only [prV,List.getElem?_map,List.getElem?_range hk,Option.map_some]
   by_cases h1:k<i
   ·rw [if_pos h1,if_pos (by omega)]
   ·rw [if_neg h1,if_neg (by omega)]
  ·rw [List.getElem?_eq_none (by rw [Zfw];omega),List.getElem?_eq_none (by rw [Zfw];omega)]
theorem lay_fin {W wr w5 w7:World} {S:Nat→Prop} {r b:Nat} {tv ev:Value} {es:List Dv} (h:RhAt W S r b tv ev es) (d:Int) (nm:ByteArray) (n:Nat) (R:Bool) (hn:es.length<1000) (hw:wdD es+n≤20000) (hb:Bw W wr) (hg:wr.heap[W.heap.size+1]?=some (.cells (Ya (List.replicate n (R,0))).toArray 38 (0,0))) {X5 X7:Obj} {g5 c5 g7 c7:Nat}
 (O5:w5.ownsRow 0 40 2 (.slice (some ⟨g5,0,none⟩) (es.length+1) c5) (es.length+1) (Yt es++[.int .i64 d,.string nm])) (G5:(wr.drew.alloc X5).grownBy w5 tv.ownBlock) (V5:tv.ownBlock=some g5∨wr.heap.size≤g5)
 (O7:w7.ownsRow 0 105 1 (.slice (some ⟨g7,0,none⟩) (es.length+1) c7) (es.length+1) (es.map dvV++[.slice (some ⟨W.heap.size+1,0,none⟩) n n])) (G7:((w5.setCell ⟨r,1,none⟩ (.slice (some ⟨g5,0,none⟩) (es.length+1) c5)).alloc X7).grownBy w7 ev.ownBlock) (V7:ev.ownBlock=some g7∨wr.heap.size≤g7) :
 ∃ e',RhN S W (w7.setCell ⟨r,2,none⟩ (.slice (some ⟨g7,0,none⟩) (es.length+1) c7)) r b (es++[e'])∧e'.d=d∧e'.nm=nm∧e'.vs=List.replicate n (R,0):=by
 have hz:=hb.size
 have hgl:W.heap.size+1<wr.heap.size:=(Array.getElem?_eq_some_iff.1 hg).1
 have h5z:wr.heap.size≤w5.heap.size:=by have:=G5.size;simp at this;omega
 have h7z:w5.heap.size≤w7.heap.size:=by have:=G7.size;simp at this;omega
 have hh:RhAt wr (fun k=>S k∨k=W.heap.size+1) r b tv ev es:=(h.below hb).mono (fun k hk=>by rcases hk with hk|rfl;exact (h.below hb).sz k hk;omega) (fun k _ x=>.inl x)
 have rl:=hh.cells.2.2.2.2
 have tne:tv.ownBlock≠some r:=Zp hh.tw hh.hh (by decide)
 have vne:ev.ownBlock≠some r:=Zp hh.vw hh.hh (by decide)
 have k5:∀ k,k<wr.heap.size→tv.ownBlock≠some k→w5.heap[k]?=wr.heap[k]?:=fun k hk hne=>(G5.block k (by simp;omega) (fun e=>hne e.symm)).trans (Below.heap_alloc _ _ _ hk)
 have k7:∀ k,k<w5.heap.size→k≠r→ev.ownBlock≠some k→w7.heap[k]?=w5.heap[k]?:=fun k hk hkr hne=>(G7.block k (by simp;omega) (fun e=>hne e.symm)).trans ((Below.heap_alloc _ _ _ (by simpa using hk)).trans (Below.heap_setCell _ _ _ _ hkr))
 have r5:=(k5 r rl tne).trans hh.hh
 have r6:(w5.setCell ⟨r,1,none⟩ (.slice (some ⟨g5,0,none⟩) (es.length+1) c5)).heap[r]?=some (.cells #[.pointer (some ⟨b,0,none⟩),.slice (some ⟨g5,0,none⟩) (es.length+1) c5,ev] 35 (0,0)):=by rw [Go.Joins.block_setCell (i:=1) r5];simp
 have r7:w7.heap[r]?=some (.cells #[.pointer (some ⟨b,0,none⟩),.slice (some ⟨g5,0,none⟩) (es.length+1) c5,ev] 35 (0,0)):=(G7.block r (by simp;omega) (fun e=>vne e.symm)).trans ((Below.heap_alloc _ _ _ (by simp;omega)).trans r6)
 have g5r:g5≠r:=by
  rintro rfl
  exact Zp O5 r5 (by decide) rfl
 have g7r:g7≠r:=by
  rintro rfl
  exact Zp O7 r7 (by decide) rfl
 have g5v:ev.ownBlock≠some g5:=by
  intro x
  have hvl:=(hh.vw.lt g5 x).2
  have hv5:=(Zw hh.vw (fun g hg'=>by
   have:tv.ownBlock≠some g:=by
    intro y
    rcases hh.vw.2 with ⟨e1,_⟩|⟨gg,cap,cur,e1,_,e2,_⟩
    ·rw [e1] at hg';simp [Value.ownBlock] at hg'
    ·rw [e1] at hg';simp [Value.ownBlock] at hg';subst hg'
     exact Zp hh.tw e2 (by decide) y
   exact k5 g (hh.vw.lt g hg').2 this))
  rcases hv5.2 with ⟨e1,_⟩|⟨gg,cap,cur,e1,_,e2,_⟩
  ·rw [e1] at x;simp [Value.ownBlock] at x
  ·rw [e1] at x;simp [Value.ownBlock] at x;subst x
   exact Zp O5 e2 (by decide) rfl
 have l5:g5<w5.heap.size:=(O5.lt g5 rfl).2
 have hv:=hh.push (w':=w7.setCell ⟨r,2,none⟩ (.slice (some ⟨g7,0,none⟩) (es.length+1) c7)) (tv':=.slice (some ⟨g5,0,none⟩) (es.length+1) c5) (ev':=.slice (some ⟨g7,0,none⟩) (es.length+1) c7) ⟨d,nm,some (W.heap.size+1),List.replicate n (R,0)⟩ hn (by simpa using hw) (fun e=>by cases e) (fun g hg'=>by cases hg';exact ⟨.inr rfl,hg,fun p hp e=>by have:=h.lte hp e;omega⟩) (by simp;omega)
  (fun k hk hkr h1 h2=>(Below.heap_setCell _ _ _ _ hkr).trans ((k7 k (by omega) hkr h2).trans (k5 k hk h1)))
  (by rw [Go.Joins.block_setCell (i:=2) r7];simp)
  (Zw O5 (fun g hg'=>by simp [Value.ownBlock] at hg';subst hg';exact (Below.heap_setCell _ _ _ _ g5r).trans (k7 g5 l5 g5r g5v)))
  (by
   have e7:dvV ⟨d,nm,some (W.heap.size+1),List.replicate n (R,0)⟩=.slice (some ⟨W.heap.size+1,0,none⟩) n n:=by simp [dvV,ebV]
   rw [e7]
   exact Zw O7 (fun g hg'=>by simp [Value.ownBlock] at hg';subst hg';exact Below.heap_setCell _ _ _ _ g7r))
  (fun k hk=>by simp [Value.ownBlock] at hk;subst hk;exact V5) (fun k hk=>by simp [Value.ownBlock] at hk;subst hk;exact V7)
 refine ⟨_,⟨⟨_,_,hv.mono (fun k hk=>?_) (fun k hk1 hk=>?_)⟩,?_⟩,rfl,rfl,rfl⟩
 ·rcases hk with hk|hk
  ·exact hv.sz k (.inl (.inl hk))
  ·exact hk.2
 ·rcases hk with (hk|rfl)|hk
  ·exact .inl hk
  ·exact .inr ⟨by omega,hk1⟩
  ·exact .inr ⟨by omega,hk.2⟩
 ·have T1:Tch S W wr:=(Tch.refl S W).bel hb
  have T5:Tch S W w5:=(T1.drew.alloc X5).grown G5 (fun k hk=>(hh.tS k hk).elim .inl (fun x=>.inr (by omega)))
  have T7:Tch S W w7:=((T5.set (p:=⟨r,1,none⟩) (.inl h.rS) _).alloc X7).grown G7 (fun k hk=>(hh.vS k hk).elim .inl (fun x=>.inr (by omega)))
  exact T7.set (p:=⟨r,2,none⟩) (.inl h.rS) _
theorem lay_d {W:World} {S:Nat→Prop} {r b:Nat} {tv ev:Value} {es:List Dv} (h:RhAt W S r b tv ev es) (d:Int) (nm:ByteArray) (n:Nat) (hn:es.length<1000) (hw:wdD es+n≤20000) :
 Calls Tryz.prog 78 #[.pointer (some ⟨r,0,none⟩),.agg #[.int .i64 d,.string nm],.int .i64 (n:Int)] W fun e w'=>e=.returned (.int .i64 ((es.length:Int)+1))∧∃ e',RhN S W w' r b (es++[e'])∧e'.d=d∧e'.nm=nm∧e'.vs=List.replicate n (rfD d nm,0):=by
 have hmk:=mk_vals n (by omega)
 have HR:Hid (∀ w:World,Calls Tryz.prog 86 #[.agg #[.int .i64 d,.string nm]] w fun e w'=>e=.returned (.bool (rfD d nm))∧Bw w w'):=Xd d nm
 have HH:Hid (RhAt W S r b tv ev es):=h
 have hn9:n≤20000:=by omega
 have HHn:Hid (es.length<1000):=hn
 have HHw:Hid (wdD es+n≤20000):=hw
 obtain ⟨R,hR⟩:∃ R,rfD d nm=R:=⟨_,rfl⟩
 rw [hR] at HR ⊢
 clear hR h hn hw
 go_enter Tryz.func78,Tryz.ntmps78
 go_wp2
 go_loopw [8] (fun iv wr=>∃ i:Nat,iv=.int .i64 i∧i≤n∧Hid (wr.heap[W.heap.size+1]?=some (.cells (Ya (prV n R i)).toArray 38 (0,0)))∧Hid (wr.heap[W.heap.size]?=some (.cells #[.int .i64 d,.string nm] 40 (0,0)))∧Hid (Bw W wr)) (fun iv _=>n - (intOf iv).toNat)
 case atStart=>exact ⟨0,rfl,Nat.zero_le _,by rw [Hid,prV_0];exact haA _ _ (by simp),hkA (Zg _ _),((Below.refl _ _).alloc (Nat.le_refl _) _).alloc (by simp) _⟩
 case round =>
  obtain ⟨i,rfl,hi,HG,HT,HB⟩:=hrel
  obtain ⟨t0,t1,tf,tL⟩:=r2c HT.out
  by_cases hlt:i<n
  ·have hltI:(i:Int)<(n:Int):=by omega
   have gL:W.heap.size+1<wr.heap.size:=(Array.getElem?_eq_some_iff.1 HG.out).1
   have NX:Hid (∀ w1,Bw wr w1→(w1.cell? ⟨W.heap.size+1,i * 2,none⟩=some (.bool false)∧w1.frozen? ⟨W.heap.size+1,i * 2,none⟩=false)∧(w1.setCell ⟨W.heap.size+1,i * 2,none⟩ (.bool R)).heap[W.heap.size+1]?=some (.cells (Ya (prV n R (i+1))).toArray 38 (0,0))∧(w1.setCell ⟨W.heap.size+1,i * 2,none⟩ (.bool R)).heap[W.heap.size]?=some (.cells #[.int .i64 d,.string nm] 40 (0,0))∧Bw W (w1.setCell ⟨W.heap.size+1,i * 2,none⟩ (.bool R))):=fun w1 hb=>by
    have hg1:=(hb.block _ gL).trans HG.out
    refine ⟨⟨?_,frozen_of_row w1 _ _ _ _ hg1⟩,?_,?_,(Za HB.out hb).setCell (p:=⟨W.heap.size+1,i * 2,none⟩) (by simp) _⟩
    ·rw [cell_of_row w1 _ (i * 2) _ _ _ hg1]
     simpa using (Xp _ i _ (prV_at R hlt)).1
    ·rw [Go.Joins.block_setCell (i:=i * 2) hg1,← prV_set R hlt,Zce _ i false R 0 (prV_at R hlt)]
     simp
    ·rw [Below.heap_setCell _ _ _ _ (by simp)];exact (hb.block _ tL).trans HT.out
   clear HH HHn HHw HG HT HB
   go_wp2_with (go_at_call 86;refine (HR.out _).mono ?_;rintro e w1 ⟨rfl,hB⟩;obtain ⟨⟨n1,n2⟩,n3,n4,n5⟩:=NX.out w1 hB;have G2:Hid _:=n3;have T2:Hid _:=n4;have B2:Hid _:=n5;clear n3 n4 n5 hB NX)
   go_roundw
   case rel=>exact ⟨i+1,by go_num,by omega,G2,T2,B2⟩
   case measure=>simp [intOf];omega
  ·obtain rfl:i=n:=by omega
   have hltI:¬ (i:Int)<(i:Int):=by omega
   obtain ⟨c0,c1,c2,fz,hl⟩:=(HH.out.below HB.out).cells
   obtain ⟨a1,k1,hv1⟩:=ownv HH.out.tw
   obtain ⟨a2,k2,hv2⟩:=ownv HH.out.vw
   have ROW1:Hid (wr.ownsRow 0 40 2 (.slice a1 es.length k1) es.length (Yt es)):=by have:=(HH.out.below HB.out).tw;rw [hv1] at this;exact this
   have ROW2:Hid (wr.ownsRow 0 105 1 (.slice a2 es.length k2) es.length (es.map dvV)):=by have:=(HH.out.below HB.out).vw;rw [hv2] at this;exact this
   have TNE:Hid (Value.ownBlock (.slice a1 es.length k1)≠some r):=by rw [← hv1];exact Zp HH.out.tw HH.out.hh (by decide)
   have VNE:Hid (Value.ownBlock (.slice a2 es.length k2)≠some r):=by rw [← hv2];exact Zp HH.out.vw HH.out.hh (by decide)
   have RB:Hid (wr.heap[r]?=some (.cells #[.pointer (some ⟨b,0,none⟩),.slice a1 es.length k1,.slice a2 es.length k2] 35 (0,0))):=by have:=(HH.out.below HB.out).hh;rw [hv1,hv2] at this;exact this
   have TL:Hid (∀ k,Value.ownBlock (.slice a1 es.length k1)=some k→k<wr.heap.size):=fun k hk=>(ROW1.out.lt k hk).2
   have TV:Hid (∀ g,Value.ownBlock (.slice a2 es.length k2)=some g→Value.ownBlock (.slice a1 es.length k1)≠some g):=fun g hg' y=>by
    rcases ROW2.out.2 with ⟨e1,_⟩|⟨gg,cap,cur,e1,_,e2,_⟩
    ·rw [e1] at hg';simp [Value.ownBlock] at hg'
    ·rw [e1] at hg';simp [Value.ownBlock] at hg';subst hg'
     exact Zp ROW1.out e2 (by decide) y
   have FIN:Hid (∀ (w5 w7:World) (X5 X7:Obj) (g5 c5 g7 c7:Nat),_):=fun w5 w7 X5 X7 g5 c5 g7 c7=>lay_fin (w5:=w5) (w7:=w7) (X5:=X5) (X7:=X7) (g5:=g5) (c5:=c5) (g7:=g7) (c7:=c7) HH.out d nm i R HHn.out HHw.out HB.out (by rw [← prV_all];exact HG.out)
   rw [hv1,hv2] at FIN
   rw [hv1] at c1
   rw [hv2] at c2
   have hm9:=HHn.out
   obtain ⟨iT,hiT,hzT0,hzT1,hzT2⟩:=info_parts Tryz.hinfoTy
   obtain ⟨iV,hiV,hzV0,hzV1,hzV2⟩:=info_parts Tryz.hinfoSv
   have rn:¬ r=wr.heap.size:=by omega
   have tn:¬ W.heap.size=wr.heap.size:=by omega
   obtain ⟨m,hm⟩:∃ m,es.length=m:=⟨_,rfl⟩
   rw [hm] at c1 c2 ROW1 ROW2 TNE VNE RB TL TV FIN hm9
   have HM:Hid (es.length=m):=hm
   clear hm hv1 hv2 HH HHn HHw HR
   go_upto_region 6 with fail
   go_region_law (refine step_append_lies _ rfl (.tmp 26) (.tmp 28) 32 rfl 0 40 iT (.agg #[.int .i64 0,.string ⟨#[]⟩]) 2 24 Tryz.underlying32 hiT hzT0 hzT1 hzT2 rfl (by decide) (.slice a1 m k1) m (Yt es) (by simp [Act.eval]) ((ROW1.out.drew).alloc _) ⟨wr.heap.size,0,none⟩ 1 1 [.int .i64 d,.string nm] (by simp [Act.eval]) rfl (World.news_of_block (heap_alloc_new _ _)) ?_ (by decide) ?_ ?_ (Nat.zero_le _) _ rfl ?_;(intro u hu;simp at hu;rcases hu with rfl|rfl <;> rfl);(unfold maxLen;omega);omega;intro g5 cap5 w5 hown hgrow hg5 hl5;have O5:Hid _:=hown;have G5:Hid _:=hgrow;have V5:Hid (Value.ownBlock (.slice a1 m k1)=some g5∨wr.heap.size≤g5):=hg5.imp id (fun e=>by rw [e];simp);have rb5:=(hgrow.block r (by simp;omega) (fun e=>TNE.out e.symm)).trans (hkA RB.out);obtain ⟨y0,y1,y2,yf,yL⟩:=r3c rb5;have RW5:Hid (w5.ownsRow 0 105 1 (.slice a2 m k2) m (es.map dvV)):=Zw ROW2.out (fun g hg'=>(hgrow.block g (by have:=(ROW2.out.lt g hg').2;simp;omega) (fun e=>TV.out g hg' e.symm)).trans (Below.heap_alloc _ _ _ (ROW2.out.lt g hg').2));have RR5:Hid _:=rb5;clear hown hgrow hg5 rb5)
   all_goals go_wp2_with (at_builtin;refine wpList_append_lies _ rfl _ _ 33 rfl 0 105 iV (.slice none 0 0) 1 24 Tryz.underlying33 hiV hzV0 hzV1 hzV2 rfl (by decide) (.slice a2 m k2) m (es.map dvV) rfl ((Zw RW5.out (fun g hg'=>Below.heap_setCell _ _ _ _ (fun e=>VNE.out (hg'.trans (congrArg some e))))).alloc _) ⟨w5.heap.size,0,none⟩ 1 1 [.slice (some ⟨W.heap.size+1,0,none⟩) i i] rfl rfl (World.news_of_block (haA _ _ (by simp))) (by intro u hu;simp at hu;subst hu;rfl) (by decide) (by unfold maxLen;omega) (by omega) (Nat.zero_le _) _ rfl ?_;intro g7 cap7 w7 hown hgrow hg7 hl7;have O7:Hid _:=hown;have G7:Hid _:=hgrow;have V7:Hid (Value.ownBlock (.slice a2 m k2)=some g7∨wr.heap.size≤g7):=hg7.imp id (fun e=>by have h1:=G5.out.size;simp at h1 e;omega);have rb7:w7.heap[r]?=some (.cells #[.pointer (some ⟨b,0,none⟩),.slice (some ⟨g5,0,none⟩) (m+1) cap5,.slice a2 m k2] 35 (0,0)):=(hgrow.block r (by simp;omega) (fun e=>VNE.out e.symm)).trans (hkA ((Go.Joins.block_setCell (i:=1) RR5.out _).trans (by simp)));obtain ⟨x0,x1,x2,xf,xL⟩:=r3c rb7;clear hown hgrow hg7 rb7)
   all_goals go_ret
   all_goals exact ⟨by rw [HM.out];simp,FIN.out w5 w7 _ _ g5 cap5 g7 cap7 O5.out G5.out V5.out O7.out G7.out V7.out⟩
def pkB (nm:ByteArray):ByteArray:=⟨(pkgL nm.data.toList).toArray⟩
theorem retB {a b:Bool} (h:a=b):Ending.returned (.bool a)=Ending.returned (.bool b):=by rw [h]
theorem Zf8 (d:Int) (s:ByteArray) (W:World):Calls Tryz.prog 113 #[.agg #[.int .i64 d,.string s]] W fun e w'=>e=.returned (.bool s.toList.isEmpty)∧Bw W w':=by
 cases he:s.toList.isEmpty
 all_goals
  go_enter Tryz.func113,Tryz.ntmps113
  go_wp2
  go_ret
  exact ⟨by first|rfl|simp_all,sqR⟩
def ldI (ps:List Plc) (d:Int) (s:ByteArray):Int:=if sndB d s.data.toList then (if s.toList.isEmpty then 0 else match Zn ps s.data.toList with
 | some _=>0
 | none=>20) else 1
theorem Zc9 {b:Nat} {ps:List Plc} {W:World} (h:WAt b ps W) (d:Int) (s:ByteArray) (hs:s.size≤maxLen):Calls Tryz.prog 72 #[.pointer (some ⟨b,0,none⟩),.agg #[.int .i64 d,.string s]] W fun e w'=>e=.returned (.int .i64 (ldI ps d s))∧Bw W w':=by
 have HC:Hid (∀ w:World,Calls Tryz.prog 112 #[.agg #[.int .i64 d,.string s]] w fun e w'=>e=.returned (.int .i64 (chkI (sndB d s.data.toList)))∧Bw w w'):=Q6 d s hs
 have HO:Hid (∀ w:World,Calls Tryz.prog 113 #[.agg #[.int .i64 d,.string s]] w fun e w'=>e=.returned (.bool s.toList.isEmpty)∧Bw w w'):=Zf8 d s
 have HN:Hid (∀ w:World,Bw W w→Calls Tryz.prog 49 #[.pointer (some ⟨b,0,none⟩),.string s] w fun e w'=>e=.returned (bnV (Zn ps s.data.toList))∧Bw w w'):=fun w hb=>Zds (h.below hb) s hs
 obtain ⟨R,hR⟩:∃ R,ldI ps d s=R:=⟨_,rfl⟩
 rw [hR]
 have HR:Hid (ldI ps d s=R):=hR
 clear hR h
 unfold ldI at HR
 generalize sndB d s.data.toList=sn at *
 generalize s.toList.isEmpty=em at *
 generalize Zn ps s.data.toList=lk at *
 cases sn with
 | false =>
   have e:chkI false=1:=rfl
   rw [e] at HC
   have HS:Hid (R=1):=HR.out.symm
   clear HR
   go_enter Tryz.func72,Tryz.ntmps72
   go_wp2_with (go_at_call 112;refine (HC.out _).mono ?_;rintro e w1 ⟨rfl,hb⟩;have B1:Hid (Bw W w1):=Za sqR hb;clear hb HC)
   exact bodyPost_ret (results_tmp rfl _ _ _) rfl ⟨by rw [HS.out];rfl,B1.out⟩
 | true =>
   have e:chkI true=0:=rfl
   rw [e] at HC
   cases em with
   | true =>
     have HS:Hid (R=0):=HR.out.symm
     clear HR
     go_enter Tryz.func72,Tryz.ntmps72
     go_wp2_with (first
      | (go_at_call 112;refine (HC.out _).mono ?_;rintro e w1 ⟨rfl,hb⟩;have h0:=(hb.block W.heap.size (by simp)).trans (Zg W _);have r0:=cell_of_row w1 W.heap.size 0 _ _ _ h0;have r1:=cell_of_row w1 W.heap.size 1 _ _ _ h0;simp only [List.getElem?_toArray,List.getElem?_cons_zero,List.getElem?_cons_succ] at r0 r1;have B1:Hid (Bw W w1):=Za sqR hb;clear hb HC h0)
      | (go_at_call 113;refine (HO.out _).mono ?_;rintro e w2 ⟨rfl,hb⟩;have B2:Hid (Bw W w2):=Za B1.out hb;clear hb HO))
     exact bodyPost_ret (results_tmp rfl _ _ _) rfl ⟨by rw [HS.out];rfl,B2.out⟩
   | false =>
     cases lk
     all_goals
      first|have HS:Hid (R=20):=HR.out.symm|have HS:Hid (R=0):=HR.out.symm
      clear HR
      simp only [bnV] at HN
      go_enter Tryz.func72,Tryz.ntmps72
      go_wp2_with (first
       | (go_at_call 112;refine (HC.out _).mono ?_;rintro e w1 ⟨rfl,hb⟩;have h0:=(hb.block W.heap.size (by simp)).trans (Zg W _);have r0:=cell_of_row w1 W.heap.size 0 _ _ _ h0;have r1:=cell_of_row w1 W.heap.size 1 _ _ _ h0;simp only [List.getElem?_toArray,List.getElem?_cons_zero,List.getElem?_cons_succ] at r0 r1;have hl:W.heap.size<w1.heap.size:=(Array.getElem?_eq_some_iff.1 h0).1;have B1:Hid (Bw W w1):=Za sqR hb;clear hb HC h0)
       | (go_at_call 113;refine (HO.out _).mono ?_;rintro e w2 ⟨rfl,hb⟩;have B2:Hid (Bw W w2):=Za B1.out hb;replace r0:=(hb.cell (p:=⟨W.heap.size,0,none⟩) hl).trans r0;replace r1:=(hb.cell (p:=⟨W.heap.size,1,none⟩) hl).trans r1;clear hb HO)
       | (go_at_call 49;refine (HN.out _ B2.out).mono ?_;rintro e w3 ⟨rfl,hb⟩;have B3:Hid (Bw W w3):=Za B2.out hb;clear hb HN))
      exact bodyPost_ret (results_tmp rfl _ _ _) rfl ⟨by rw [HS.out];rfl,B3.out⟩
def intB (d:Int) (s:ByteArray):Bool:=(d == 0)&&s.toList.isEmpty
theorem isInt_c (d:Int) (s:ByteArray) (W:World):Calls Tryz.prog 164 #[.agg #[.int .i64 d,.string s]] W fun e w'=>e=.returned (.bool (intB d s))∧Bw W w':=by
 obtain ⟨R,hR⟩:∃ R,intB d s=R:=⟨_,rfl⟩
 have HR:Hid (((d == 0)&&s.toList.isEmpty)=R):=hR
 rw [hR]
 clear hR
 go_enter Tryz.func164,Tryz.ntmps164
 go_wp2
 all_goals go_ret
 all_goals exact ⟨retB (by rw [← HR.out];simp [*]),sqR⟩
def sObj:List UInt8:=[79,98,106,101,99,116]
def sClo:List UInt8:=[67,108,111,110,101,97,98,108,101]
def sSer:List UInt8:=[83,101,114,105,97,108,105,122,97,98,108,101]
def abv3:List (List UInt8):=[sObj,sClo,sSer]
theorem above3_c (W:World):Calls Tryz.prog 165 #[] W fun e w'=>(∃ v,e=.returned v∧IsStrs w' v abv3)∧Bw W w':=by
 go_enter Tryz.func165,Tryz.ntmps165
 go_wp2
 refine bodyPost_ret (results_tmp rfl _ _ _) rfl ⟨⟨_,rfl,_,_,rfl,by decide,by decide,fun _=>⟨W.heap.size,0,rfl,by simp,fun k p hk=>?_⟩⟩,sqR⟩
 match k,hk with
 | 0,hk=>cases hk;simp [go_sem,sObj]
 | 1,hk=>cases hk;simp [go_sem,sClo]
 | 2,hk=>cases hk;simp [go_sem,sSer]
 | (k+3),hk=>simp [abv3] at hk
theorem aExt_c {b:Nat} {ps:List Plc} {W:World} (h:WAt b ps W) (hi:WI ps) (s t:ByteArray) (hs:s.size≤maxLen) (ht:t.size≤maxLen) (x y:Nat) (hx:Zn ps s.data.toList=some x) (hy:Zn ps t.data.toList=some y):Calls Tryz.prog 166 #[.pointer (some ⟨b,0,none⟩),.string s,.string t] W fun e w'=>e=.returned (.bool (extB (ps.map nd) x y))∧Bw W w':=by
 obtain ⟨p,hp,_⟩:=Z9 hx
 obtain ⟨q,hq,_⟩:=Z9 hy
 have he:extI ps x y=extB (ps.map nd) x y:=by rw [extI,Qk,Qk,hp,hq];rfl
 have HX:Hid (∀ u w,Bw W w→u=s→Calls Tryz.prog 49 #[.pointer (some ⟨b,0,none⟩),.string u] w fun e w'=>e=.returned (.tuple #[.int .i64 (x:Int),.int .i64 0])∧Bw W w'):=fun u w hb hu=>(Zds (h.below hb) u (by rw [hu];exact hs)).mono fun e w' zz=>⟨by rw [zz.1,hu,hx];rfl,Za hb zz.2⟩
 have HY:Hid (∀ u w,Bw W w→u=t→Calls Tryz.prog 49 #[.pointer (some ⟨b,0,none⟩),.string u] w fun e w'=>e=.returned (.tuple #[.int .i64 (y:Int),.int .i64 0])∧Bw W w'):=fun u w hb hu=>(Zds (h.below hb) u (by rw [hu];exact ht)).mono fun e w' zz=>⟨by rw [zz.1,hu,hy];rfl,Za hb zz.2⟩
 have HE:Hid (∀ w,Bw W w→Calls Tryz.prog 184 #[.pointer (some ⟨b,0,none⟩),.int .i64 (x:Int),.int .i64 (y:Int)] w fun e w'=>e=.returned (.bool (extB (ps.map nd) x y))∧Bw W w'):=fun w hb=>(Zkt (h.below hb) hi x y).mono fun e w' zz=>⟨by rw [zz.1,he],Za hb zz.2⟩
 generalize extB (ps.map nd) x y=R at *
 clear h hi hs ht hx hy hp hq he
 go_enter Tryz.func166,Tryz.ntmps166
 go_wp2_with (first
  | (go_at_call 49;refine (HX.out _ _ (Below.refl _ _) (by rfl)).mono ?_;rintro e w1 ⟨rfl,hb⟩;have B1:Hid (Bw W w1):=hb;clear hb HX)
  | (go_at_call 49;refine (HY.out _ _ B1.out (by rfl)).mono ?_;rintro e w2 ⟨rfl,hb⟩;have B2:Hid (Bw W w2):=hb;clear hb HY)
  | (go_at_call 184;refine (HE.out _ B2.out).mono ?_;rintro e w3 ⟨rfl,hb⟩;have B3:Hid (Bw W w3):=hb;clear hb HE))
 exact bodyPost_ret (results_tmp rfl _ _ _) rfl ⟨rfl,B3.out⟩
end Go.Proofs.YtlnojhhddinjkaaGreat
