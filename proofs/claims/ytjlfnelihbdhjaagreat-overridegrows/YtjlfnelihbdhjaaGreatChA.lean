import Derived.Test.YtjlfnelihbdhjaaGreatRsC
import Derived.Test.YtjlfnelihbdhjaaGreatFOwnA
import Derived.Test.YtjlfnelihbdhjaaGreatTyC
import Derived.Test.YtjlfnelihbdhjaaGreatSoE
import Derived.Test.YtjlfnelihbdhjaaGreatOwnL
import Derived.Deep.RegionHeld3
import Derived.Deep.LoopGhost
import Derived.Deep.DeepCutAuto
set_option maxRecDepth 100000
namespace Go.Proofs.YtjlfnelihbdhjaaGreat
open Go.RowKit Go.Maps
theorem open_c (f:Int) (W:World):Calls Tryz.prog 141 #[.int .i64 f] W fun e w'=>e=.returned (.int .i64 (openI f))∧w'=W:=by
  have HR:Hid (openI f=if hasI f 1 then 1 else if hasI f 4 then 4 else bits .and .i64 f 2):=Fl.own_open f
  have HH:Hid (∀ (x:Int) (y:Bool) (w:World),hasI f x=y→Calls Tryz.prog 206 #[.int .i64 f,.int .i64 x] w fun e w'=>e=.returned (.bool y)∧w'=w):=fun x y w hy=>by rw [← hy];exact Fl.hasAny_any f x w
  generalize openI f=r at *
  generalize hasI f=hz at *
  obtain ⟨b1,h1⟩:∃ b,hz 1=b:=⟨_,rfl⟩
  obtain ⟨b4,h4⟩:∃ b,hz 4=b:=⟨_,rfl⟩
  rw [h1,h4] at HR
  have H1:Hid _:=h1
  have H4:Hid _:=h4
  clear h1 h4
  cases b1 <;> cases b4
  all_goals
    go_enter Tryz.func141,Tryz.ntmps141
    go_wp2_with (go_at_call 206;refine (HH.out _ _ _ (by first|exact H1.out|exact H4.out)).mono ?_;rintro e w9 ⟨rfl,hw9⟩;rw [hw9];clear hw9 w9)
    exact bodyPost_ret (results_tmp rfl _ _ _) rfl ⟨by rw [HR.out];rfl,rfl⟩
theorem retB {a b:Bool} (h:a=b):Ending.returned (.bool a)=Ending.returned (.bool b):=by rw [h]
theorem open_cases (f:Int):openI f=1∨openI f=2∨openI f=4∨openI f=0:=by
  unfold openI
  split
  · exact .inl rfl
  · split
    · exact .inr (.inr (.inl rfl))
    · split
      · exact .inr (.inl rfl)
      · exact .inr (.inr (.inr rfl))
theorem meth_plc {ps:List Plc} {c i:Int} {m:HM} (h:methI ps c i=some m):∃ (k:Nat) (q:Plc),c=(k:Int)∧ps[k]?=some q∧plcI ps c=some q∧methP q i=some m:=by
  rcases plcI_cases ps c with ⟨h1,_⟩|⟨k,q,rfl,h2,h1⟩
  · rw [methI,h1] at h;cases h
  · rw [methI,h1] at h
    exact ⟨k,q,rfl,h2,h1,h⟩
set_option maxHeartbeats 4000000 in
theorem sameIDs_eq (N1 N2:Nat) (l:List (Int×Int)) (v1 v2:Value) (W:World) (h1:W.ownsRow N1 24 2 v1 l.length (flatD l)) (h2:W.ownsRow N2 24 2 v2 l.length (flatD l)) (hn:l.length≤1000000):Calls Tryz.prog 27 #[v1,v2] W fun e w'=>e=.returned (.bool true)∧Below W.heap.size W w':=by
  obtain ⟨a1,c1,rfl⟩:=ownv h1
  obtain ⟨a2,c2,rfl⟩:=ownv h2
  have H1:Hid (W.ownsRow N1 24 2 (.slice a1 l.length c1) l.length (flatD l)):=h1
  have H2:Hid (W.ownsRow N2 24 2 (.slice a2 l.length c2) l.length (flatD l)):=h2
  obtain ⟨K,hK⟩:∃ K,l.length=K:=⟨_,rfl⟩
  have HK:Hid (l.length=K):=hK
  rw [hK] at hn ⊢
  clear h1 h2 hK
  go_enter Tryz.func27,Tryz.ntmps27
  go_wp2
  go_loopw [5] (fun iv wr=>∃ i:Nat,iv=.int .i64 i∧i≤K∧Hid (Below W.heap.size W wr)) (fun iv _=>K - (intOf iv).toNat)
  case atStart=>exact ⟨0,rfl,Nat.zero_le _,Below.refl _ _⟩
  case round =>
    obtain ⟨i,rfl,hi,hb⟩:=hrel
    by_cases hlt:i<K
    · have hlq:i<l.length:=by rw [HK.out];exact hlt
      obtain ⟨x,hx⟩:∃ x,l[i]?=some x:=⟨_,List.getElem?_eq_getElem hlq⟩
      obtain ⟨g1,d1,hf1⟩:=Go.Joins.ownsRow_form H1.out (by omega)
      obtain ⟨g2,d2,hf2⟩:=Go.Joins.ownsRow_form H2.out (by omega)
      have r1:=H1.out
      have r2:=H2.out
      rw [hf1] at r1
      rw [hf2] at r2
      obtain ⟨e0,e1,hgl1⟩:=rowD_cells r1 hx
      obtain ⟨f0,f1,hgl2⟩:=rowD_cells r2 hx
      injection hf1 with ha1 _ hc1
      injection hf2 with ha2 _ hc2
      subst ha1 hc1 ha2 hc2
      obtain ⟨σ,V,hne,V1,V2⟩:=class_of' (fun w'=>Below W.heap.size W w') ⟨_,Below.refl _ _⟩
      have kp:∀ (s:σ) (bb j:Nat) (v:Value),bb<W.heap.size→W.cell? ⟨bb,j,none⟩=some v→(V s).cell? ⟨bb,j,none⟩=some v:=fun s bb j v hl h=>((V1.out s).cell (p:=⟨bb,j,none⟩) hl).trans h
      replace e0:=fun s=>kp s _ _ _ hgl1 e0
      replace e1:=fun s=>kp s _ _ _ hgl1 e1
      replace f0:=fun s=>kp s _ _ _ hgl2 f0
      replace f1:=fun s=>kp s _ _ _ hgl2 f1
      have HS:Hid (∀ s,Calls Tryz.prog 24 #[.agg #[.int .i64 x.1,.int .i64 x.2],.agg #[.int .i64 x.1,.int .i64 x.2]] (V s) fun e w'=>e=.returned (.bool true)∧∃ s',w'=V s'):=fun s=>(sameID_c x x (V s)).mono fun e w' zz=>⟨by rw [zz.1];simp,V2.out _ (bstep (V1.out s) zz.2)⟩
      have hiI:(i:Int)<(K:Int):=by omega
      obtain ⟨x1,x2⟩:=x
      simp only at e0 e1 f0 f1 HS
      clear hx r1 r2 kp hlq H1 H2
      go_wp2
      refine wp_region_class (C:=fun w'=>∃ s,w'=V s) (by kernel_rfl) (by kernel_rfl) (V2.out _ (hb.out.drew)) ?_
      repeat (go_big_quiet_step ((go_at_call 24;exact HS.out _)))
      refine wpQuiet_nil ?_
      intro w9 hw9
      obtain ⟨s9,rfl⟩:=hw9
      have B9:Hid (Below W.heap.size W (V s9)):=V1.out s9
      go_wp2
      go_roundw
      case rel=>exact ⟨i+1,by go_num,by omega,B9⟩
      case measure=>simp [intOf];omega
    · have e:i=K:=by omega
      subst e
      go_wp2
      exact bodyPost_ret (results_tmp rfl _ _ _) rfl ⟨rfl,hb.out⟩
def FndF (ps:List Plc) (nm ds:ByteArray) (m:Int×Int):Prop:=∃ x,methI ps m.1 m.2=some x∧x.nm.toList=nm.toList∧x.ds.toList=ds.toList
theorem fnd_facts {ps:List Plc} {c:Int} {nm ds:ByteArray} (h:(fndI ps c nm ds).2=0):FndF ps nm ds (c,(fndI ps c nm ds).1)∧∃ (k:Nat) (q:Plc),c=(k:Int)∧ps[k]?=some q:=by
  rcases plcI_cases ps c with ⟨h1,h2⟩|⟨k,q,rfl,h2,h1⟩
  · rw [fndI,h1] at h;exact absurd h (by show ¬ (3:Int)=0;decide)
  · have e:fndI ps k nm ds=if findH nm ds q.c.ms 0<0 then (0,6) else (findH nm ds q.c.ms 0,0):=by rw [fndI,h1]
    refine ⟨?_,k,q,rfl,h2⟩
    rw [e] at h ⊢
    rcases findH_range nm ds q.c.ms 0 with e2|⟨j,x,e2,hj,hn,hd⟩
    · rw [e2,if_pos (by decide)] at h;exact absurd h (by decide)
    · rw [e2,if_neg (by omega)]
      refine ⟨x,?_,hn,hd⟩
      rw [methI,h1]
      show methP q ((0+j:Nat):Int)=some x
      rw [methP,if_pos (Int.natCast_nonneg _)]
      simpa using hj
structure Gr (ps:List Plc) (p:Plc):Prop where
  wi:WI ps
  wi2:WI (ps++[p])
  nn:lookL ps (nameL p)=none
theorem clO_snoc (ns:List Nd) (p:Nd) {k:Nat} (hk:k<ns.length):clO (ns++[p]) k=clO ns k:=by rw [clO,clO,List.getElem?_append_left hk]
theorem spO_snoc (ns:List Nd) (p:Nd) {k:Nat} (hk:k<ns.length):spO (ns++[p]) k=spO ns k:=by rw [spO,spO,List.getElem?_append_left hk]
theorem chL_snoc {ns:List Nd} {p:Nd} (h:WO ns) (h2:WO (ns++[p])):∀ k,k<ns.length→chL (ns++[p]) k=chL ns k:=by
  refine ch_ind h (P:=fun k=>chL (ns++[p]) k=chL ns k) rfl ?_
  intro k hk h0 _ ih
  rw [chL_cons h hk h0,chL_cons h2 (by simp;omega) h0,spO_snoc ns p hk,ih]
theorem extB_snoc {ns:List Nd} {p:Nd} (h:WO ns) (h2:WO (ns++[p])) {k:Nat} (hk:k<ns.length) (m:Nat):extB (ns++[p]) k m=extB ns k m:=by
  rw [extB,extB,chL_snoc h h2 k hk,clO_snoc ns p hk]
theorem ch_in {ns:List Nd} (h:WO ns):∀ k,k<ns.length→∀ i∈chL ns k,i<ns.length:=by
  refine ch_ind h (P:=fun k=>∀ i∈chL ns k,i<ns.length) ?_ ?_
  · intro i hi
    have h0:chL ns 0=[0]:=by rfl
    rw [h0] at hi
    obtain ⟨n,hn,_⟩:=h.top
    have:=(List.getElem?_eq_some_iff.1 hn).1
    simp at hi;omega
  · intro k hk h0 _ ih i hi
    rw [chL_cons h hk h0] at hi
    rcases List.mem_cons.1 hi with rfl|hi
    · exact hk
    · exact ih i hi
section
variable {ps:List Plc} {p:Plc}
theorem Gr.plc {i:Int} {q:Plc} (hi:plcI ps i=some q):plcI (ps++[p]) i=some q:=by
  obtain ⟨h1,h2⟩:=plcI_lt hi
  rw [plcI,if_pos h1] at hi ⊢
  rw [List.getElem?_append_left (by omega)];exact hi
theorem plc_nat {k:Nat} (hk:k<ps.length):∃ q,plcI ps (k:Int)=some q:=⟨ps[k],by rw [plcI_nat];exact List.getElem?_eq_getElem hk⟩
theorem Gr.fnd {i:Int} {q:Plc} (hi:plcI ps i=some q) (nm ds:ByteArray):fndI (ps++[p]) i nm ds=fndI ps i nm ds:=by
  rw [fndI,fndI,hi,Gr.plc hi]
theorem Gr.met {i:Int} {q:Plc} (hi:plcI ps i=some q) (j:Int):methI (ps++[p]) i j=methI ps i j:=by
  rw [methI,methI,hi,Gr.plc hi]
theorem Gr.ifc {i:Int} {q:Plc} (hi:plcI ps i=some q):ifcI (ps++[p]) i=ifcI ps i:=by
  rw [ifcI,ifcI,hi,Gr.plc hi]
theorem Gr.ext (h:Gr ps p) {i j:Int} {q r:Plc} (hi:plcI ps i=some q) (hj:plcI ps j=some r):extI (ps++[p]) i j=extI ps i j:=by
  have h1:=plcI_lt hi
  rw [extI,extI,hi,hj,Gr.plc hi,Gr.plc hj,List.map_append]
  show (_&&extB (ps.map nd++[nd p]) _ _)=_
  have hw:=h.wi2.wo
  rw [List.map_append] at hw
  rw [extB_snoc h.wi.wo hw (by simp;omega)]
end
def stB (f:Int):Bool:=bits .and .i64 f 8 != 0
def freB (f:Int) (n:ByteArray):Bool:=!stB f&&!(n.toList == [60,105,110,105,116,62])
theorem isStatic_c (b:Nat) (xn xd:ByteArray) (xf xl xs:Int) (xa:Option Addr) (xk xo:Nat) (xc xi:Int) (W:World):Calls Tryz.prog 151 #[.agg #[.string xn,.string xd,.int .i64 xf,.int .i64 xl,.int .i64 xs,.slice xa xk xo,.int .i64 xc,.int .i64 xi,.pointer (some ⟨b,0,none⟩)]] W fun e w'=>e=.returned (.bool (stB xf))∧Below W.heap.size W w':=by
  go_enter Tryz.func151,Tryz.ntmps151
  go_wp2
  go_ret
  exact ⟨retB (by simp [stB]),(by repeat (first|exact Below.refl _ _|refine Below.setCell ?_ (by simp;try omega) _|refine Below.alloc ?_ (by simp;try omega) _|refine Below.drew ?_))⟩
theorem isFree_c (b:Nat) (xn xd:ByteArray) (xf xl xs:Int) (xa:Option Addr) (xk xo:Nat) (xc xi:Int) (W:World):Calls Tryz.prog 139 #[.agg #[.string xn,.string xd,.int .i64 xf,.int .i64 xl,.int .i64 xs,.slice xa xk xo,.int .i64 xc,.int .i64 xi,.pointer (some ⟨b,0,none⟩)]] W fun e w'=>e=.returned (.bool (freB xf xn))∧Below W.heap.size W w':=by
  have HS:Hid (∀ w:World,Calls Tryz.prog 151 #[.agg #[.string xn,.string xd,.int .i64 xf,.int .i64 xl,.int .i64 xs,.slice xa xk xo,.int .i64 xc,.int .i64 xi,.pointer (some ⟨b,0,none⟩)]] w fun e w'=>e=.returned (.bool (stB xf))∧Below w.heap.size w w'):=fun w=>isStatic_c b xn xd xf xl xs xa xk xo xc xi w
  unfold freB
  generalize stB xf=S at *
  cases S
  all_goals
    have BB:Hid (Below W.heap.size W W):=Below.refl _ _
    go_enter Tryz.func139,Tryz.ntmps139
    go_wp2_with (first
      | (go_at_call 151;refine (HS.out _).mono ?_;rintro e w1 ⟨rfl,hb⟩;have qd:w1.heap[W.heap.size]?=some (.cells #[.string xn,.string xd,.int .i64 xf,.int .i64 xl,.int .i64 xs,.slice xa xk xo,.int .i64 xc,.int .i64 xi,.pointer (some ⟨b,0,none⟩)] 93 (0,0)):=(hb.block (W.heap.size) (by first|omega|(simp;try omega))).trans (by first|exact qB.out|exact hkeep qB.out|exact hkeep (hkeep qB.out)|exact halloc2 _ _ rfl|exact heap_alloc2_old _ _ _|exact heap_alloc2_new _ _ _|exact hkeep (halloc2 _ _ rfl)|exact hkeep (hkeep (halloc2 _ _ rfl))|exact halloc2 _ _ (by simp;done));(try clear qB qL qN q0 q1 q2 q3 q4 q5 q6 q7 q8 qf0 qf1 qf2 qf3 qf4 qf5 qf6 qf7 qf8);have qB:Hid (w1.heap[W.heap.size]?=some (.cells #[.string xn,.string xd,.int .i64 xf,.int .i64 xl,.int .i64 xs,.slice xa xk xo,.int .i64 xc,.int .i64 xi,.pointer (some ⟨b,0,none⟩)] 93 (0,0))):=qd;have q0:w1.cell? ⟨W.heap.size,0,none⟩=some (.string xn):=(cell_of_row w1 (W.heap.size) 0 _ _ _ qd).trans rfl;have qf0:=frozen_of_row w1 (W.heap.size) 0 _ _ qd;have q1:w1.cell? ⟨W.heap.size,1,none⟩=some (.string xd):=(cell_of_row w1 (W.heap.size) 1 _ _ _ qd).trans rfl;have qf1:=frozen_of_row w1 (W.heap.size) 1 _ _ qd;have q2:w1.cell? ⟨W.heap.size,2,none⟩=some (.int .i64 xf):=(cell_of_row w1 (W.heap.size) 2 _ _ _ qd).trans rfl;have qf2:=frozen_of_row w1 (W.heap.size) 2 _ _ qd;have q3:w1.cell? ⟨W.heap.size,3,none⟩=some (.int .i64 xl):=(cell_of_row w1 (W.heap.size) 3 _ _ _ qd).trans rfl;have qf3:=frozen_of_row w1 (W.heap.size) 3 _ _ qd;have q4:w1.cell? ⟨W.heap.size,4,none⟩=some (.int .i64 xs):=(cell_of_row w1 (W.heap.size) 4 _ _ _ qd).trans rfl;have qf4:=frozen_of_row w1 (W.heap.size) 4 _ _ qd;have q5:w1.cell? ⟨W.heap.size,5,none⟩=some (.slice xa xk xo):=(cell_of_row w1 (W.heap.size) 5 _ _ _ qd).trans rfl;have qf5:=frozen_of_row w1 (W.heap.size) 5 _ _ qd;have q6:w1.cell? ⟨W.heap.size,6,none⟩=some (.int .i64 xc):=(cell_of_row w1 (W.heap.size) 6 _ _ _ qd).trans rfl;have qf6:=frozen_of_row w1 (W.heap.size) 6 _ _ qd;have q7:w1.cell? ⟨W.heap.size,7,none⟩=some (.int .i64 xi):=(cell_of_row w1 (W.heap.size) 7 _ _ _ qd).trans rfl;have qf7:=frozen_of_row w1 (W.heap.size) 7 _ _ qd;have q8:w1.cell? ⟨W.heap.size,8,none⟩=some (.pointer (some ⟨b,0,none⟩)):=(cell_of_row w1 (W.heap.size) 8 _ _ _ qd).trans rfl;have qf8:=frozen_of_row w1 (W.heap.size) 8 _ _ qd;have qL:W.heap.size<w1.heap.size:=(Array.getElem?_eq_some_iff.1 qd).1;have qN:¬ W.heap.size=w1.heap.size:=(by omega);clear qd;have BB2:Below W.heap.size W w1:=bstep (by repeat (first|exact Below.refl _ _|refine Below.setCell ?_ (by simp;try omega) _|refine Below.alloc ?_ (by simp;try omega) _|refine Below.drew ?_)) hb;clear BB;have BB:Hid (Below W.heap.size W w1):=BB2;clear BB2 hb;clear HS))
    all_goals go_ret
    all_goals exact ⟨retB (by simp [*]),(by repeat (first|exact BB.out|exact Below.refl _ _|refine Below.setCell ?_ (by simp;try omega) _|refine Below.alloc ?_ (by have:=BB.out.size;simp;try omega) _|refine Below.drew ?_))⟩
theorem is_c (b:Nat) (xn xd:ByteArray) (xf xl xs:Int) (xa:Option Addr) (xk xo:Nat) (xc xi:Int) (yn yd:ByteArray) (yf yl ys:Int) (ya:Option Addr) (yk yo:Nat) (yc yi:Int) (W:World):Calls Tryz.prog 71 #[.agg #[.string xn,.string xd,.int .i64 xf,.int .i64 xl,.int .i64 xs,.slice xa xk xo,.int .i64 xc,.int .i64 xi,.pointer (some ⟨b,0,none⟩)],.agg #[.string yn,.string yd,.int .i64 yf,.int .i64 yl,.int .i64 ys,.slice ya yk yo,.int .i64 yc,.int .i64 yi,.pointer (some ⟨b,0,none⟩)]] W fun e w'=>e=.returned (.bool ((xc == yc)&&(xi == yi)))∧Below W.heap.size W w':=by
  go_enter Tryz.func71,Tryz.ntmps71
  go_wp2
  all_goals go_ret
  all_goals exact ⟨retB (by simp [*]),(by repeat (first|exact Below.refl _ _|refine Below.setCell ?_ (by simp;try omega) _|refine Below.alloc ?_ (by simp;try omega) _|refine Below.drew ?_))⟩
def bloB (ps:List Plc) (c a:Int):Bool:=!(c == a)&&!ifcI ps c&&extI ps c a
set_option maxHeartbeats 1000000 in
theorem isBelow_c {b:Nat} {ps:List Plc} {W:World} (h:WAt b ps W) (hi:WI ps) (xn xd:ByteArray) (xf xl xs:Int) (xa:Option Addr) (xk xo:Nat) (xc xi:Int) (yn yd:ByteArray) (yf yl ys:Int) (ya:Option Addr) (yk yo:Nat) (yc yi:Int):Calls Tryz.prog 140 #[.agg #[.string xn,.string xd,.int .i64 xf,.int .i64 xl,.int .i64 xs,.slice xa xk xo,.int .i64 xc,.int .i64 xi,.pointer (some ⟨b,0,none⟩)],.agg #[.string yn,.string yd,.int .i64 yf,.int .i64 yl,.int .i64 ys,.slice ya yk yo,.int .i64 yc,.int .i64 yi,.pointer (some ⟨b,0,none⟩)]] W fun e w'=>e=.returned (.bool (bloB ps xc yc))∧Below W.heap.size W w':=by
  have HI:Hid (∀ w,Below W.heap.size W w→Calls Tryz.prog 56 #[.pointer (some ⟨b,0,none⟩),.int .i64 xc] w fun e w'=>e=.returned (.bool (ifcI ps xc))∧Below w.heap.size w w'):=fun w hb=>isIface_c (h.below hb) xc
  have HE:Hid (∀ w,Below W.heap.size W w→Calls Tryz.prog 57 #[.pointer (some ⟨b,0,none⟩),.int .i64 xc,.int .i64 yc] w fun e w'=>e=.returned (.bool (extI ps xc yc))∧Below w.heap.size w w'):=fun w hb=>extends_c (h.below hb) hi xc yc
  unfold bloB
  generalize ifcI ps xc=I at *
  generalize extI ps xc yc=E at *
  clear h hi
  cases hz:(xc == yc)
  all_goals cases I
  all_goals
    have BB:Hid (Below W.heap.size W W):=Below.refl _ _
    go_enter Tryz.func140,Tryz.ntmps140
    go_wp2
    go_region
    go_wp2_with (first
      | (go_at_call 56;refine (HI.out _ (by repeat (first|exact Below.refl _ _|refine Below.setCell ?_ (by simp;try omega) _|refine Below.alloc ?_ (by simp;try omega) _|refine Below.drew ?_))).mono ?_;rintro e w1 ⟨rfl,hb⟩;have qd:w1.heap[W.heap.size]?=some (.cells #[.string xn,.string xd,.int .i64 xf,.int .i64 xl,.int .i64 xs,.slice xa xk xo,.int .i64 xc,.int .i64 xi,.pointer (some ⟨b,0,none⟩)] 93 (0,0)):=(hb.block (W.heap.size) (by first|omega|(simp;try omega))).trans (by first|exact qB.out|exact hkeep qB.out|exact hkeep (hkeep qB.out)|exact halloc2 _ _ rfl|exact heap_alloc2_old _ _ _|exact heap_alloc2_new _ _ _|exact hkeep (halloc2 _ _ rfl)|exact hkeep (hkeep (halloc2 _ _ rfl))|exact halloc2 _ _ (by simp;done));(try clear qB qL qN q0 q1 q2 q3 q4 q5 q6 q7 q8 qf0 qf1 qf2 qf3 qf4 qf5 qf6 qf7 qf8);have qB:Hid (w1.heap[W.heap.size]?=some (.cells #[.string xn,.string xd,.int .i64 xf,.int .i64 xl,.int .i64 xs,.slice xa xk xo,.int .i64 xc,.int .i64 xi,.pointer (some ⟨b,0,none⟩)] 93 (0,0))):=qd;have q0:w1.cell? ⟨W.heap.size,0,none⟩=some (.string xn):=(cell_of_row w1 (W.heap.size) 0 _ _ _ qd).trans rfl;have qf0:=frozen_of_row w1 (W.heap.size) 0 _ _ qd;have q1:w1.cell? ⟨W.heap.size,1,none⟩=some (.string xd):=(cell_of_row w1 (W.heap.size) 1 _ _ _ qd).trans rfl;have qf1:=frozen_of_row w1 (W.heap.size) 1 _ _ qd;have q2:w1.cell? ⟨W.heap.size,2,none⟩=some (.int .i64 xf):=(cell_of_row w1 (W.heap.size) 2 _ _ _ qd).trans rfl;have qf2:=frozen_of_row w1 (W.heap.size) 2 _ _ qd;have q3:w1.cell? ⟨W.heap.size,3,none⟩=some (.int .i64 xl):=(cell_of_row w1 (W.heap.size) 3 _ _ _ qd).trans rfl;have qf3:=frozen_of_row w1 (W.heap.size) 3 _ _ qd;have q4:w1.cell? ⟨W.heap.size,4,none⟩=some (.int .i64 xs):=(cell_of_row w1 (W.heap.size) 4 _ _ _ qd).trans rfl;have qf4:=frozen_of_row w1 (W.heap.size) 4 _ _ qd;have q5:w1.cell? ⟨W.heap.size,5,none⟩=some (.slice xa xk xo):=(cell_of_row w1 (W.heap.size) 5 _ _ _ qd).trans rfl;have qf5:=frozen_of_row w1 (W.heap.size) 5 _ _ qd;have q6:w1.cell? ⟨W.heap.size,6,none⟩=some (.int .i64 xc):=(cell_of_row w1 (W.heap.size) 6 _ _ _ qd).trans rfl;have qf6:=frozen_of_row w1 (W.heap.size) 6 _ _ qd;have q7:w1.cell? ⟨W.heap.size,7,none⟩=some (.int .i64 xi):=(cell_of_row w1 (W.heap.size) 7 _ _ _ qd).trans rfl;have qf7:=frozen_of_row w1 (W.heap.size) 7 _ _ qd;have q8:w1.cell? ⟨W.heap.size,8,none⟩=some (.pointer (some ⟨b,0,none⟩)):=(cell_of_row w1 (W.heap.size) 8 _ _ _ qd).trans rfl;have qf8:=frozen_of_row w1 (W.heap.size) 8 _ _ qd;have qL:W.heap.size<w1.heap.size:=(Array.getElem?_eq_some_iff.1 qd).1;have qN:¬ W.heap.size=w1.heap.size:=(by omega);clear qd;have BB2:Below W.heap.size W w1:=bstep (by repeat (first|exact Below.refl _ _|refine Below.setCell ?_ (by simp;try omega) _|refine Below.alloc ?_ (by simp;try omega) _|refine Below.drew ?_)) hb;clear BB;have BB:Hid (Below W.heap.size W w1):=BB2;clear BB2 hb;clear HI)
      | (go_at_call 57;refine (HE.out _ BB.out).mono ?_;rintro e w2 ⟨rfl,hb⟩;have BB2:Below W.heap.size W w2:=bstep BB.out hb;clear BB;have BB:Hid (Below W.heap.size W w2):=BB2;clear BB2 hb;clear HE))
    all_goals go_ret
    all_goals first
      | (exfalso;rename_i hq;rw [hq] at hz;simp at hz;done)
      | (exfalso;rename_i hq;exact hq (by simpa using hz))
      | exact ⟨retB (by simp [*]),(by repeat (first|exact BB.out|exact Below.refl _ _|refine Below.setCell ?_ (by simp;try omega) _|refine Below.alloc ?_ (by have:=BB.out.size;simp;try omega) _|refine Below.drew ?_))⟩
def reaB (ps:List Plc) (c a f:Int):Bool:=if openI f=2 then false else if ifcI ps a then true else if openI f=1 then true else if openI f=4 then true else spI ps c a
set_option maxHeartbeats 1000000 in
theorem reaches_c {b:Nat} {ps:List Plc} {W:World} (h:WAt b ps W) (hi:WI ps) (xn xd:ByteArray) (xf xl xs:Int) (xa:Option Addr) (xk xo:Nat) (xc xi:Int) (yn yd:ByteArray) (yf yl ys:Int) (ya:Option Addr) (yk yo:Nat) (yc yi:Int):Calls Tryz.prog 142 #[.agg #[.string xn,.string xd,.int .i64 xf,.int .i64 xl,.int .i64 xs,.slice xa xk xo,.int .i64 xc,.int .i64 xi,.pointer (some ⟨b,0,none⟩)],.agg #[.string yn,.string yd,.int .i64 yf,.int .i64 yl,.int .i64 ys,.slice ya yk yo,.int .i64 yc,.int .i64 yi,.pointer (some ⟨b,0,none⟩)]] W fun e w'=>e=.returned (.bool (reaB ps xc yc yf))∧Below W.heap.size W w':=by
  have HI:Hid (∀ w,Below W.heap.size W w→Calls Tryz.prog 56 #[.pointer (some ⟨b,0,none⟩),.int .i64 yc] w fun e w'=>e=.returned (.bool (ifcI ps yc))∧Below w.heap.size w w'):=fun w hb=>isIface_c (h.below hb) yc
  have HP:Hid (∀ w,Below W.heap.size W w→Calls Tryz.prog 207 #[.pointer (some ⟨b,0,none⟩),.int .i64 xc,.int .i64 yc] w fun e w'=>e=.returned (.bool (spI ps xc yc))∧Below w.heap.size w w'):=fun w hb=>samePk_c (h.below hb) hi.nm xc yc
  have HO:Hid (∀ w:World,Calls Tryz.prog 141 #[.int .i64 yf] w fun e w'=>e=.returned (.int .i64 (openI yf))∧w'=w):=fun w=>open_c yf w
  have ho:=open_cases yf
  unfold reaB
  generalize ifcI ps yc=I at *
  generalize spI ps xc yc=E at *
  generalize openI yf=O at *
  clear h hi
  rcases ho with rfl|rfl|rfl|rfl
  all_goals cases I
  all_goals
    have BB:Hid (Below W.heap.size W W):=Below.refl _ _
    go_enter Tryz.func142,Tryz.ntmps142
    go_wp2_with (first
      | (go_at_call 141;refine (HO.out _).mono ?_;rintro e w9 ⟨rfl,hw9⟩;rw [hw9];clear hw9 w9 HO)
      | (go_at_call 56;refine (HI.out _ (by repeat (first|exact Below.refl _ _|refine Below.setCell ?_ (by simp;try omega) _|refine Below.alloc ?_ (by simp;try omega) _|refine Below.drew ?_))).mono ?_;rintro e w1 ⟨rfl,hb⟩;have qd:w1.heap[W.heap.size]?=some (.cells #[.string xn,.string xd,.int .i64 xf,.int .i64 xl,.int .i64 xs,.slice xa xk xo,.int .i64 xc,.int .i64 xi,.pointer (some ⟨b,0,none⟩)] 93 (0,0)):=(hb.block (W.heap.size) (by first|omega|(simp;try omega))).trans (by first|exact qB.out|exact hkeep qB.out|exact hkeep (hkeep qB.out)|exact halloc2 _ _ rfl|exact heap_alloc2_old _ _ _|exact heap_alloc2_new _ _ _|exact hkeep (halloc2 _ _ rfl)|exact hkeep (hkeep (halloc2 _ _ rfl))|exact halloc2 _ _ (by simp;done));(try clear qB qL qN q0 q1 q2 q3 q4 q5 q6 q7 q8 qf0 qf1 qf2 qf3 qf4 qf5 qf6 qf7 qf8);have qB:Hid (w1.heap[W.heap.size]?=some (.cells #[.string xn,.string xd,.int .i64 xf,.int .i64 xl,.int .i64 xs,.slice xa xk xo,.int .i64 xc,.int .i64 xi,.pointer (some ⟨b,0,none⟩)] 93 (0,0))):=qd;have q0:w1.cell? ⟨W.heap.size,0,none⟩=some (.string xn):=(cell_of_row w1 (W.heap.size) 0 _ _ _ qd).trans rfl;have qf0:=frozen_of_row w1 (W.heap.size) 0 _ _ qd;have q1:w1.cell? ⟨W.heap.size,1,none⟩=some (.string xd):=(cell_of_row w1 (W.heap.size) 1 _ _ _ qd).trans rfl;have qf1:=frozen_of_row w1 (W.heap.size) 1 _ _ qd;have q2:w1.cell? ⟨W.heap.size,2,none⟩=some (.int .i64 xf):=(cell_of_row w1 (W.heap.size) 2 _ _ _ qd).trans rfl;have qf2:=frozen_of_row w1 (W.heap.size) 2 _ _ qd;have q3:w1.cell? ⟨W.heap.size,3,none⟩=some (.int .i64 xl):=(cell_of_row w1 (W.heap.size) 3 _ _ _ qd).trans rfl;have qf3:=frozen_of_row w1 (W.heap.size) 3 _ _ qd;have q4:w1.cell? ⟨W.heap.size,4,none⟩=some (.int .i64 xs):=(cell_of_row w1 (W.heap.size) 4 _ _ _ qd).trans rfl;have qf4:=frozen_of_row w1 (W.heap.size) 4 _ _ qd;have q5:w1.cell? ⟨W.heap.size,5,none⟩=some (.slice xa xk xo):=(cell_of_row w1 (W.heap.size) 5 _ _ _ qd).trans rfl;have qf5:=frozen_of_row w1 (W.heap.size) 5 _ _ qd;have q6:w1.cell? ⟨W.heap.size,6,none⟩=some (.int .i64 xc):=(cell_of_row w1 (W.heap.size) 6 _ _ _ qd).trans rfl;have qf6:=frozen_of_row w1 (W.heap.size) 6 _ _ qd;have q7:w1.cell? ⟨W.heap.size,7,none⟩=some (.int .i64 xi):=(cell_of_row w1 (W.heap.size) 7 _ _ _ qd).trans rfl;have qf7:=frozen_of_row w1 (W.heap.size) 7 _ _ qd;have q8:w1.cell? ⟨W.heap.size,8,none⟩=some (.pointer (some ⟨b,0,none⟩)):=(cell_of_row w1 (W.heap.size) 8 _ _ _ qd).trans rfl;have qf8:=frozen_of_row w1 (W.heap.size) 8 _ _ qd;have qL:W.heap.size<w1.heap.size:=(Array.getElem?_eq_some_iff.1 qd).1;have qN:¬ W.heap.size=w1.heap.size:=(by omega);clear qd;have rd:w1.heap[W.heap.size+1]?=some (.cells #[.string yn,.string yd,.int .i64 yf,.int .i64 yl,.int .i64 ys,.slice ya yk yo,.int .i64 yc,.int .i64 yi,.pointer (some ⟨b,0,none⟩)] 93 (0,0)):=(hb.block (W.heap.size+1) (by first|omega|(simp;try omega))).trans (by first|exact rB.out|exact hkeep rB.out|exact hkeep (hkeep rB.out)|exact halloc2 _ _ rfl|exact heap_alloc2_old _ _ _|exact heap_alloc2_new _ _ _|exact hkeep (halloc2 _ _ rfl)|exact hkeep (hkeep (halloc2 _ _ rfl))|exact halloc2 _ _ (by simp;done));(try clear rB rL rN r0 r1 r2 r3 r4 r5 r6 r7 r8 rf0 rf1 rf2 rf3 rf4 rf5 rf6 rf7 rf8);have rB:Hid (w1.heap[W.heap.size+1]?=some (.cells #[.string yn,.string yd,.int .i64 yf,.int .i64 yl,.int .i64 ys,.slice ya yk yo,.int .i64 yc,.int .i64 yi,.pointer (some ⟨b,0,none⟩)] 93 (0,0))):=rd;have r0:w1.cell? ⟨W.heap.size+1,0,none⟩=some (.string yn):=(cell_of_row w1 (W.heap.size+1) 0 _ _ _ rd).trans rfl;have rf0:=frozen_of_row w1 (W.heap.size+1) 0 _ _ rd;have r1:w1.cell? ⟨W.heap.size+1,1,none⟩=some (.string yd):=(cell_of_row w1 (W.heap.size+1) 1 _ _ _ rd).trans rfl;have rf1:=frozen_of_row w1 (W.heap.size+1) 1 _ _ rd;have r2:w1.cell? ⟨W.heap.size+1,2,none⟩=some (.int .i64 yf):=(cell_of_row w1 (W.heap.size+1) 2 _ _ _ rd).trans rfl;have rf2:=frozen_of_row w1 (W.heap.size+1) 2 _ _ rd;have r3:w1.cell? ⟨W.heap.size+1,3,none⟩=some (.int .i64 yl):=(cell_of_row w1 (W.heap.size+1) 3 _ _ _ rd).trans rfl;have rf3:=frozen_of_row w1 (W.heap.size+1) 3 _ _ rd;have r4:w1.cell? ⟨W.heap.size+1,4,none⟩=some (.int .i64 ys):=(cell_of_row w1 (W.heap.size+1) 4 _ _ _ rd).trans rfl;have rf4:=frozen_of_row w1 (W.heap.size+1) 4 _ _ rd;have r5:w1.cell? ⟨W.heap.size+1,5,none⟩=some (.slice ya yk yo):=(cell_of_row w1 (W.heap.size+1) 5 _ _ _ rd).trans rfl;have rf5:=frozen_of_row w1 (W.heap.size+1) 5 _ _ rd;have r6:w1.cell? ⟨W.heap.size+1,6,none⟩=some (.int .i64 yc):=(cell_of_row w1 (W.heap.size+1) 6 _ _ _ rd).trans rfl;have rf6:=frozen_of_row w1 (W.heap.size+1) 6 _ _ rd;have r7:w1.cell? ⟨W.heap.size+1,7,none⟩=some (.int .i64 yi):=(cell_of_row w1 (W.heap.size+1) 7 _ _ _ rd).trans rfl;have rf7:=frozen_of_row w1 (W.heap.size+1) 7 _ _ rd;have r8:w1.cell? ⟨W.heap.size+1,8,none⟩=some (.pointer (some ⟨b,0,none⟩)):=(cell_of_row w1 (W.heap.size+1) 8 _ _ _ rd).trans rfl;have rf8:=frozen_of_row w1 (W.heap.size+1) 8 _ _ rd;have rL:W.heap.size+1<w1.heap.size:=(Array.getElem?_eq_some_iff.1 rd).1;have rN:¬ W.heap.size+1=w1.heap.size:=(by omega);clear rd;have BB2:Below W.heap.size W w1:=bstep (by repeat (first|exact Below.refl _ _|refine Below.setCell ?_ (by simp;try omega) _|refine Below.alloc ?_ (by simp;try omega) _|refine Below.drew ?_)) hb;clear BB;have BB:Hid (Below W.heap.size W w1):=BB2;clear BB2 hb;clear HI)
      | (go_at_call 207;refine (HP.out _ BB.out).mono ?_;rintro e w2 ⟨rfl,hb⟩;have BB2:Below W.heap.size W w2:=bstep BB.out hb;clear BB;have BB:Hid (Below W.heap.size W w2):=BB2;clear BB2 hb;clear HP))
    all_goals go_ret
    all_goals exact ⟨retB (by simp [*]),(by repeat (first|exact BB.out|exact Below.refl _ _|refine Below.setCell ?_ (by simp;try omega) _|refine Below.alloc ?_ (by have:=BB.out.size;simp;try omega) _|refine Below.drew ?_))⟩
def plnB (ps:List Plc) (xn xd:ByteArray) (xf xc:Int) (yn yd:ByteArray) (yf yc:Int):Bool:=freB xf xn&&freB yf yn&&(xn.toList == yn.toList)&&(xd.toList == yd.toList)&&bloB ps xc yc&&!(openI xf == 2)&&reaB ps xc yc yf
set_option maxHeartbeats 4000000 in
theorem plain_c {b:Nat} {ps:List Plc} {W:World} (h:WAt b ps W) (hi:WI ps) (xn xd:ByteArray) (xf xl xs:Int) (xa:Option Addr) (xk xo:Nat) (xc xi:Int) (yn yd:ByteArray) (yf yl ys:Int) (ya:Option Addr) (yk yo:Nat) (yc yi:Int):Calls Tryz.prog 65 #[.agg #[.string xn,.string xd,.int .i64 xf,.int .i64 xl,.int .i64 xs,.slice xa xk xo,.int .i64 xc,.int .i64 xi,.pointer (some ⟨b,0,none⟩)],.agg #[.string yn,.string yd,.int .i64 yf,.int .i64 yl,.int .i64 ys,.slice ya yk yo,.int .i64 yc,.int .i64 yi,.pointer (some ⟨b,0,none⟩)]] W fun e w'=>e=.returned (.bool (plnB ps xn xd xf xc yn yd yf yc))∧Below W.heap.size W w':=by
  have HF:Hid (∀ w:World,Calls Tryz.prog 139 #[.agg #[.string xn,.string xd,.int .i64 xf,.int .i64 xl,.int .i64 xs,.slice xa xk xo,.int .i64 xc,.int .i64 xi,.pointer (some ⟨b,0,none⟩)]] w fun e w'=>e=.returned (.bool (freB xf xn))∧Below w.heap.size w w'):=fun w=>isFree_c b xn xd xf xl xs xa xk xo xc xi w
  have HG:Hid (∀ w:World,Calls Tryz.prog 139 #[.agg #[.string yn,.string yd,.int .i64 yf,.int .i64 yl,.int .i64 ys,.slice ya yk yo,.int .i64 yc,.int .i64 yi,.pointer (some ⟨b,0,none⟩)]] w fun e w'=>e=.returned (.bool (freB yf yn))∧Below w.heap.size w w'):=fun w=>isFree_c b yn yd yf yl ys ya yk yo yc yi w
  have HL:Hid (∀ w,Below W.heap.size W w→Calls Tryz.prog 140 #[.agg #[.string xn,.string xd,.int .i64 xf,.int .i64 xl,.int .i64 xs,.slice xa xk xo,.int .i64 xc,.int .i64 xi,.pointer (some ⟨b,0,none⟩)],.agg #[.string yn,.string yd,.int .i64 yf,.int .i64 yl,.int .i64 ys,.slice ya yk yo,.int .i64 yc,.int .i64 yi,.pointer (some ⟨b,0,none⟩)]] w fun e w'=>e=.returned (.bool (bloB ps xc yc))∧Below w.heap.size w w'):=fun w hb=>isBelow_c (h.below hb) hi xn xd xf xl xs xa xk xo xc xi yn yd yf yl ys ya yk yo yc yi
  have HR:Hid (∀ w,Below W.heap.size W w→Calls Tryz.prog 142 #[.agg #[.string xn,.string xd,.int .i64 xf,.int .i64 xl,.int .i64 xs,.slice xa xk xo,.int .i64 xc,.int .i64 xi,.pointer (some ⟨b,0,none⟩)],.agg #[.string yn,.string yd,.int .i64 yf,.int .i64 yl,.int .i64 ys,.slice ya yk yo,.int .i64 yc,.int .i64 yi,.pointer (some ⟨b,0,none⟩)]] w fun e w'=>e=.returned (.bool (reaB ps xc yc yf))∧Below w.heap.size w w'):=fun w hb=>reaches_c (h.below hb) hi xn xd xf xl xs xa xk xo xc xi yn yd yf yl ys ya yk yo yc yi
  have HO:Hid (∀ w:World,Calls Tryz.prog 141 #[.int .i64 xf] w fun e w'=>e=.returned (.int .i64 (openI xf))∧w'=w):=fun w=>open_c xf w
  unfold plnB
  generalize freB xf xn=A1 at *
  generalize freB yf yn=A2 at *
  generalize bloB ps xc yc=A3 at *
  generalize reaB ps xc yc yf=A4 at *
  generalize openI xf=O at *
  clear h hi
  cases A1
  case' true=>cases A2
  case' true.true=>cases hn:(xn.toList == yn.toList)
  case' true.true.true=>cases hd:(xd.toList == yd.toList)
  case' true.true.true.true=>cases A3
  case' true.true.true.true.true=>cases ho:(O == 2)
  all_goals
    have BB:Hid (Below W.heap.size W W):=Below.refl _ _
    go_enter Tryz.func65,Tryz.ntmps65
    go_wp2_with (first
      | (go_at_call 139;refine (HF.out _).mono ?_;rintro e w1 ⟨rfl,hb⟩;have qd:w1.heap[W.heap.size]?=some (.cells #[.string xn,.string xd,.int .i64 xf,.int .i64 xl,.int .i64 xs,.slice xa xk xo,.int .i64 xc,.int .i64 xi,.pointer (some ⟨b,0,none⟩)] 93 (0,0)):=(hb.block (W.heap.size) (by first|omega|(simp;try omega))).trans (by first|exact qB.out|exact hkeep qB.out|exact hkeep (hkeep qB.out)|exact halloc2 _ _ rfl|exact heap_alloc2_old _ _ _|exact heap_alloc2_new _ _ _|exact hkeep (halloc2 _ _ rfl)|exact hkeep (hkeep (halloc2 _ _ rfl))|exact halloc2 _ _ (by simp;done));(try clear qB qL qN q0 q1 q2 q3 q4 q5 q6 q7 q8 qf0 qf1 qf2 qf3 qf4 qf5 qf6 qf7 qf8);have qB:Hid (w1.heap[W.heap.size]?=some (.cells #[.string xn,.string xd,.int .i64 xf,.int .i64 xl,.int .i64 xs,.slice xa xk xo,.int .i64 xc,.int .i64 xi,.pointer (some ⟨b,0,none⟩)] 93 (0,0))):=qd;have q0:w1.cell? ⟨W.heap.size,0,none⟩=some (.string xn):=(cell_of_row w1 (W.heap.size) 0 _ _ _ qd).trans rfl;have qf0:=frozen_of_row w1 (W.heap.size) 0 _ _ qd;have q1:w1.cell? ⟨W.heap.size,1,none⟩=some (.string xd):=(cell_of_row w1 (W.heap.size) 1 _ _ _ qd).trans rfl;have qf1:=frozen_of_row w1 (W.heap.size) 1 _ _ qd;have q2:w1.cell? ⟨W.heap.size,2,none⟩=some (.int .i64 xf):=(cell_of_row w1 (W.heap.size) 2 _ _ _ qd).trans rfl;have qf2:=frozen_of_row w1 (W.heap.size) 2 _ _ qd;have q3:w1.cell? ⟨W.heap.size,3,none⟩=some (.int .i64 xl):=(cell_of_row w1 (W.heap.size) 3 _ _ _ qd).trans rfl;have qf3:=frozen_of_row w1 (W.heap.size) 3 _ _ qd;have q4:w1.cell? ⟨W.heap.size,4,none⟩=some (.int .i64 xs):=(cell_of_row w1 (W.heap.size) 4 _ _ _ qd).trans rfl;have qf4:=frozen_of_row w1 (W.heap.size) 4 _ _ qd;have q5:w1.cell? ⟨W.heap.size,5,none⟩=some (.slice xa xk xo):=(cell_of_row w1 (W.heap.size) 5 _ _ _ qd).trans rfl;have qf5:=frozen_of_row w1 (W.heap.size) 5 _ _ qd;have q6:w1.cell? ⟨W.heap.size,6,none⟩=some (.int .i64 xc):=(cell_of_row w1 (W.heap.size) 6 _ _ _ qd).trans rfl;have qf6:=frozen_of_row w1 (W.heap.size) 6 _ _ qd;have q7:w1.cell? ⟨W.heap.size,7,none⟩=some (.int .i64 xi):=(cell_of_row w1 (W.heap.size) 7 _ _ _ qd).trans rfl;have qf7:=frozen_of_row w1 (W.heap.size) 7 _ _ qd;have q8:w1.cell? ⟨W.heap.size,8,none⟩=some (.pointer (some ⟨b,0,none⟩)):=(cell_of_row w1 (W.heap.size) 8 _ _ _ qd).trans rfl;have qf8:=frozen_of_row w1 (W.heap.size) 8 _ _ qd;have qL:W.heap.size<w1.heap.size:=(Array.getElem?_eq_some_iff.1 qd).1;have qN:¬ W.heap.size=w1.heap.size:=(by omega);clear qd;have rd:w1.heap[W.heap.size+1]?=some (.cells #[.string yn,.string yd,.int .i64 yf,.int .i64 yl,.int .i64 ys,.slice ya yk yo,.int .i64 yc,.int .i64 yi,.pointer (some ⟨b,0,none⟩)] 93 (0,0)):=(hb.block (W.heap.size+1) (by first|omega|(simp;try omega))).trans (by first|exact rB.out|exact hkeep rB.out|exact hkeep (hkeep rB.out)|exact halloc2 _ _ rfl|exact heap_alloc2_old _ _ _|exact heap_alloc2_new _ _ _|exact hkeep (halloc2 _ _ rfl)|exact hkeep (hkeep (halloc2 _ _ rfl))|exact halloc2 _ _ (by simp;done));(try clear rB rL rN r0 r1 r2 r3 r4 r5 r6 r7 r8 rf0 rf1 rf2 rf3 rf4 rf5 rf6 rf7 rf8);have rB:Hid (w1.heap[W.heap.size+1]?=some (.cells #[.string yn,.string yd,.int .i64 yf,.int .i64 yl,.int .i64 ys,.slice ya yk yo,.int .i64 yc,.int .i64 yi,.pointer (some ⟨b,0,none⟩)] 93 (0,0))):=rd;have r0:w1.cell? ⟨W.heap.size+1,0,none⟩=some (.string yn):=(cell_of_row w1 (W.heap.size+1) 0 _ _ _ rd).trans rfl;have rf0:=frozen_of_row w1 (W.heap.size+1) 0 _ _ rd;have r1:w1.cell? ⟨W.heap.size+1,1,none⟩=some (.string yd):=(cell_of_row w1 (W.heap.size+1) 1 _ _ _ rd).trans rfl;have rf1:=frozen_of_row w1 (W.heap.size+1) 1 _ _ rd;have r2:w1.cell? ⟨W.heap.size+1,2,none⟩=some (.int .i64 yf):=(cell_of_row w1 (W.heap.size+1) 2 _ _ _ rd).trans rfl;have rf2:=frozen_of_row w1 (W.heap.size+1) 2 _ _ rd;have r3:w1.cell? ⟨W.heap.size+1,3,none⟩=some (.int .i64 yl):=(cell_of_row w1 (W.heap.size+1) 3 _ _ _ rd).trans rfl;have rf3:=frozen_of_row w1 (W.heap.size+1) 3 _ _ rd;have r4:w1.cell? ⟨W.heap.size+1,4,none⟩=some (.int .i64 ys):=(cell_of_row w1 (W.heap.size+1) 4 _ _ _ rd).trans rfl;have rf4:=frozen_of_row w1 (W.heap.size+1) 4 _ _ rd;have r5:w1.cell? ⟨W.heap.size+1,5,none⟩=some (.slice ya yk yo):=(cell_of_row w1 (W.heap.size+1) 5 _ _ _ rd).trans rfl;have rf5:=frozen_of_row w1 (W.heap.size+1) 5 _ _ rd;have r6:w1.cell? ⟨W.heap.size+1,6,none⟩=some (.int .i64 yc):=(cell_of_row w1 (W.heap.size+1) 6 _ _ _ rd).trans rfl;have rf6:=frozen_of_row w1 (W.heap.size+1) 6 _ _ rd;have r7:w1.cell? ⟨W.heap.size+1,7,none⟩=some (.int .i64 yi):=(cell_of_row w1 (W.heap.size+1) 7 _ _ _ rd).trans rfl;have rf7:=frozen_of_row w1 (W.heap.size+1) 7 _ _ rd;have r8:w1.cell? ⟨W.heap.size+1,8,none⟩=some (.pointer (some ⟨b,0,none⟩)):=(cell_of_row w1 (W.heap.size+1) 8 _ _ _ rd).trans rfl;have rf8:=frozen_of_row w1 (W.heap.size+1) 8 _ _ rd;have rL:W.heap.size+1<w1.heap.size:=(Array.getElem?_eq_some_iff.1 rd).1;have rN:¬ W.heap.size+1=w1.heap.size:=(by omega);clear rd;have BB2:Below W.heap.size W w1:=bstep (by repeat (first|exact Below.refl _ _|refine Below.setCell ?_ (by simp;try omega) _|refine Below.alloc ?_ (by simp;try omega) _|refine Below.drew ?_)) hb;clear BB;have BB:Hid (Below W.heap.size W w1):=BB2;clear BB2 hb;clear HF)
      | (go_at_call 139;refine (HG.out _).mono ?_;rintro e w2 ⟨rfl,hb⟩;have qd:w2.heap[W.heap.size]?=some (.cells #[.string xn,.string xd,.int .i64 xf,.int .i64 xl,.int .i64 xs,.slice xa xk xo,.int .i64 xc,.int .i64 xi,.pointer (some ⟨b,0,none⟩)] 93 (0,0)):=(hb.block (W.heap.size) (by first|omega|(simp;try omega))).trans (by first|exact qB.out|exact hkeep qB.out|exact hkeep (hkeep qB.out)|exact halloc2 _ _ rfl|exact heap_alloc2_old _ _ _|exact heap_alloc2_new _ _ _|exact hkeep (halloc2 _ _ rfl)|exact hkeep (hkeep (halloc2 _ _ rfl))|exact halloc2 _ _ (by simp;done));(try clear qB qL qN q0 q1 q2 q3 q4 q5 q6 q7 q8 qf0 qf1 qf2 qf3 qf4 qf5 qf6 qf7 qf8);have qB:Hid (w2.heap[W.heap.size]?=some (.cells #[.string xn,.string xd,.int .i64 xf,.int .i64 xl,.int .i64 xs,.slice xa xk xo,.int .i64 xc,.int .i64 xi,.pointer (some ⟨b,0,none⟩)] 93 (0,0))):=qd;have q0:w2.cell? ⟨W.heap.size,0,none⟩=some (.string xn):=(cell_of_row w2 (W.heap.size) 0 _ _ _ qd).trans rfl;have qf0:=frozen_of_row w2 (W.heap.size) 0 _ _ qd;have q1:w2.cell? ⟨W.heap.size,1,none⟩=some (.string xd):=(cell_of_row w2 (W.heap.size) 1 _ _ _ qd).trans rfl;have qf1:=frozen_of_row w2 (W.heap.size) 1 _ _ qd;have q2:w2.cell? ⟨W.heap.size,2,none⟩=some (.int .i64 xf):=(cell_of_row w2 (W.heap.size) 2 _ _ _ qd).trans rfl;have qf2:=frozen_of_row w2 (W.heap.size) 2 _ _ qd;have q3:w2.cell? ⟨W.heap.size,3,none⟩=some (.int .i64 xl):=(cell_of_row w2 (W.heap.size) 3 _ _ _ qd).trans rfl;have qf3:=frozen_of_row w2 (W.heap.size) 3 _ _ qd;have q4:w2.cell? ⟨W.heap.size,4,none⟩=some (.int .i64 xs):=(cell_of_row w2 (W.heap.size) 4 _ _ _ qd).trans rfl;have qf4:=frozen_of_row w2 (W.heap.size) 4 _ _ qd;have q5:w2.cell? ⟨W.heap.size,5,none⟩=some (.slice xa xk xo):=(cell_of_row w2 (W.heap.size) 5 _ _ _ qd).trans rfl;have qf5:=frozen_of_row w2 (W.heap.size) 5 _ _ qd;have q6:w2.cell? ⟨W.heap.size,6,none⟩=some (.int .i64 xc):=(cell_of_row w2 (W.heap.size) 6 _ _ _ qd).trans rfl;have qf6:=frozen_of_row w2 (W.heap.size) 6 _ _ qd;have q7:w2.cell? ⟨W.heap.size,7,none⟩=some (.int .i64 xi):=(cell_of_row w2 (W.heap.size) 7 _ _ _ qd).trans rfl;have qf7:=frozen_of_row w2 (W.heap.size) 7 _ _ qd;have q8:w2.cell? ⟨W.heap.size,8,none⟩=some (.pointer (some ⟨b,0,none⟩)):=(cell_of_row w2 (W.heap.size) 8 _ _ _ qd).trans rfl;have qf8:=frozen_of_row w2 (W.heap.size) 8 _ _ qd;have qL:W.heap.size<w2.heap.size:=(Array.getElem?_eq_some_iff.1 qd).1;have qN:¬ W.heap.size=w2.heap.size:=(by omega);clear qd;have rd:w2.heap[W.heap.size+1]?=some (.cells #[.string yn,.string yd,.int .i64 yf,.int .i64 yl,.int .i64 ys,.slice ya yk yo,.int .i64 yc,.int .i64 yi,.pointer (some ⟨b,0,none⟩)] 93 (0,0)):=(hb.block (W.heap.size+1) (by first|omega|(simp;try omega))).trans (by first|exact rB.out|exact hkeep rB.out|exact hkeep (hkeep rB.out)|exact halloc2 _ _ rfl|exact heap_alloc2_old _ _ _|exact heap_alloc2_new _ _ _|exact hkeep (halloc2 _ _ rfl)|exact hkeep (hkeep (halloc2 _ _ rfl))|exact halloc2 _ _ (by simp;done));(try clear rB rL rN r0 r1 r2 r3 r4 r5 r6 r7 r8 rf0 rf1 rf2 rf3 rf4 rf5 rf6 rf7 rf8);have rB:Hid (w2.heap[W.heap.size+1]?=some (.cells #[.string yn,.string yd,.int .i64 yf,.int .i64 yl,.int .i64 ys,.slice ya yk yo,.int .i64 yc,.int .i64 yi,.pointer (some ⟨b,0,none⟩)] 93 (0,0))):=rd;have r0:w2.cell? ⟨W.heap.size+1,0,none⟩=some (.string yn):=(cell_of_row w2 (W.heap.size+1) 0 _ _ _ rd).trans rfl;have rf0:=frozen_of_row w2 (W.heap.size+1) 0 _ _ rd;have r1:w2.cell? ⟨W.heap.size+1,1,none⟩=some (.string yd):=(cell_of_row w2 (W.heap.size+1) 1 _ _ _ rd).trans rfl;have rf1:=frozen_of_row w2 (W.heap.size+1) 1 _ _ rd;have r2:w2.cell? ⟨W.heap.size+1,2,none⟩=some (.int .i64 yf):=(cell_of_row w2 (W.heap.size+1) 2 _ _ _ rd).trans rfl;have rf2:=frozen_of_row w2 (W.heap.size+1) 2 _ _ rd;have r3:w2.cell? ⟨W.heap.size+1,3,none⟩=some (.int .i64 yl):=(cell_of_row w2 (W.heap.size+1) 3 _ _ _ rd).trans rfl;have rf3:=frozen_of_row w2 (W.heap.size+1) 3 _ _ rd;have r4:w2.cell? ⟨W.heap.size+1,4,none⟩=some (.int .i64 ys):=(cell_of_row w2 (W.heap.size+1) 4 _ _ _ rd).trans rfl;have rf4:=frozen_of_row w2 (W.heap.size+1) 4 _ _ rd;have r5:w2.cell? ⟨W.heap.size+1,5,none⟩=some (.slice ya yk yo):=(cell_of_row w2 (W.heap.size+1) 5 _ _ _ rd).trans rfl;have rf5:=frozen_of_row w2 (W.heap.size+1) 5 _ _ rd;have r6:w2.cell? ⟨W.heap.size+1,6,none⟩=some (.int .i64 yc):=(cell_of_row w2 (W.heap.size+1) 6 _ _ _ rd).trans rfl;have rf6:=frozen_of_row w2 (W.heap.size+1) 6 _ _ rd;have r7:w2.cell? ⟨W.heap.size+1,7,none⟩=some (.int .i64 yi):=(cell_of_row w2 (W.heap.size+1) 7 _ _ _ rd).trans rfl;have rf7:=frozen_of_row w2 (W.heap.size+1) 7 _ _ rd;have r8:w2.cell? ⟨W.heap.size+1,8,none⟩=some (.pointer (some ⟨b,0,none⟩)):=(cell_of_row w2 (W.heap.size+1) 8 _ _ _ rd).trans rfl;have rf8:=frozen_of_row w2 (W.heap.size+1) 8 _ _ rd;have rL:W.heap.size+1<w2.heap.size:=(Array.getElem?_eq_some_iff.1 rd).1;have rN:¬ W.heap.size+1=w2.heap.size:=(by omega);clear rd;have BB2:Below W.heap.size W w2:=bstep BB.out hb;clear BB;have BB:Hid (Below W.heap.size W w2):=BB2;clear BB2 hb;clear HG)
      | (go_at_call 140;refine (HL.out _ BB.out).mono ?_;rintro e w3 ⟨rfl,hb⟩;have qd:w3.heap[W.heap.size]?=some (.cells #[.string xn,.string xd,.int .i64 xf,.int .i64 xl,.int .i64 xs,.slice xa xk xo,.int .i64 xc,.int .i64 xi,.pointer (some ⟨b,0,none⟩)] 93 (0,0)):=(hb.block (W.heap.size) (by first|omega|(simp;try omega))).trans (by first|exact qB.out|exact hkeep qB.out|exact hkeep (hkeep qB.out)|exact halloc2 _ _ rfl|exact heap_alloc2_old _ _ _|exact heap_alloc2_new _ _ _|exact hkeep (halloc2 _ _ rfl)|exact hkeep (hkeep (halloc2 _ _ rfl))|exact halloc2 _ _ (by simp;done));(try clear qB qL qN q0 q1 q2 q3 q4 q5 q6 q7 q8 qf0 qf1 qf2 qf3 qf4 qf5 qf6 qf7 qf8);have qB:Hid (w3.heap[W.heap.size]?=some (.cells #[.string xn,.string xd,.int .i64 xf,.int .i64 xl,.int .i64 xs,.slice xa xk xo,.int .i64 xc,.int .i64 xi,.pointer (some ⟨b,0,none⟩)] 93 (0,0))):=qd;have q0:w3.cell? ⟨W.heap.size,0,none⟩=some (.string xn):=(cell_of_row w3 (W.heap.size) 0 _ _ _ qd).trans rfl;have qf0:=frozen_of_row w3 (W.heap.size) 0 _ _ qd;have q1:w3.cell? ⟨W.heap.size,1,none⟩=some (.string xd):=(cell_of_row w3 (W.heap.size) 1 _ _ _ qd).trans rfl;have qf1:=frozen_of_row w3 (W.heap.size) 1 _ _ qd;have q2:w3.cell? ⟨W.heap.size,2,none⟩=some (.int .i64 xf):=(cell_of_row w3 (W.heap.size) 2 _ _ _ qd).trans rfl;have qf2:=frozen_of_row w3 (W.heap.size) 2 _ _ qd;have q3:w3.cell? ⟨W.heap.size,3,none⟩=some (.int .i64 xl):=(cell_of_row w3 (W.heap.size) 3 _ _ _ qd).trans rfl;have qf3:=frozen_of_row w3 (W.heap.size) 3 _ _ qd;have q4:w3.cell? ⟨W.heap.size,4,none⟩=some (.int .i64 xs):=(cell_of_row w3 (W.heap.size) 4 _ _ _ qd).trans rfl;have qf4:=frozen_of_row w3 (W.heap.size) 4 _ _ qd;have q5:w3.cell? ⟨W.heap.size,5,none⟩=some (.slice xa xk xo):=(cell_of_row w3 (W.heap.size) 5 _ _ _ qd).trans rfl;have qf5:=frozen_of_row w3 (W.heap.size) 5 _ _ qd;have q6:w3.cell? ⟨W.heap.size,6,none⟩=some (.int .i64 xc):=(cell_of_row w3 (W.heap.size) 6 _ _ _ qd).trans rfl;have qf6:=frozen_of_row w3 (W.heap.size) 6 _ _ qd;have q7:w3.cell? ⟨W.heap.size,7,none⟩=some (.int .i64 xi):=(cell_of_row w3 (W.heap.size) 7 _ _ _ qd).trans rfl;have qf7:=frozen_of_row w3 (W.heap.size) 7 _ _ qd;have q8:w3.cell? ⟨W.heap.size,8,none⟩=some (.pointer (some ⟨b,0,none⟩)):=(cell_of_row w3 (W.heap.size) 8 _ _ _ qd).trans rfl;have qf8:=frozen_of_row w3 (W.heap.size) 8 _ _ qd;have qL:W.heap.size<w3.heap.size:=(Array.getElem?_eq_some_iff.1 qd).1;have qN:¬ W.heap.size=w3.heap.size:=(by omega);clear qd;have rd:w3.heap[W.heap.size+1]?=some (.cells #[.string yn,.string yd,.int .i64 yf,.int .i64 yl,.int .i64 ys,.slice ya yk yo,.int .i64 yc,.int .i64 yi,.pointer (some ⟨b,0,none⟩)] 93 (0,0)):=(hb.block (W.heap.size+1) (by first|omega|(simp;try omega))).trans (by first|exact rB.out|exact hkeep rB.out|exact hkeep (hkeep rB.out)|exact halloc2 _ _ rfl|exact heap_alloc2_old _ _ _|exact heap_alloc2_new _ _ _|exact hkeep (halloc2 _ _ rfl)|exact hkeep (hkeep (halloc2 _ _ rfl))|exact halloc2 _ _ (by simp;done));(try clear rB rL rN r0 r1 r2 r3 r4 r5 r6 r7 r8 rf0 rf1 rf2 rf3 rf4 rf5 rf6 rf7 rf8);have rB:Hid (w3.heap[W.heap.size+1]?=some (.cells #[.string yn,.string yd,.int .i64 yf,.int .i64 yl,.int .i64 ys,.slice ya yk yo,.int .i64 yc,.int .i64 yi,.pointer (some ⟨b,0,none⟩)] 93 (0,0))):=rd;have r0:w3.cell? ⟨W.heap.size+1,0,none⟩=some (.string yn):=(cell_of_row w3 (W.heap.size+1) 0 _ _ _ rd).trans rfl;have rf0:=frozen_of_row w3 (W.heap.size+1) 0 _ _ rd;have r1:w3.cell? ⟨W.heap.size+1,1,none⟩=some (.string yd):=(cell_of_row w3 (W.heap.size+1) 1 _ _ _ rd).trans rfl;have rf1:=frozen_of_row w3 (W.heap.size+1) 1 _ _ rd;have r2:w3.cell? ⟨W.heap.size+1,2,none⟩=some (.int .i64 yf):=(cell_of_row w3 (W.heap.size+1) 2 _ _ _ rd).trans rfl;have rf2:=frozen_of_row w3 (W.heap.size+1) 2 _ _ rd;have r3:w3.cell? ⟨W.heap.size+1,3,none⟩=some (.int .i64 yl):=(cell_of_row w3 (W.heap.size+1) 3 _ _ _ rd).trans rfl;have rf3:=frozen_of_row w3 (W.heap.size+1) 3 _ _ rd;have r4:w3.cell? ⟨W.heap.size+1,4,none⟩=some (.int .i64 ys):=(cell_of_row w3 (W.heap.size+1) 4 _ _ _ rd).trans rfl;have rf4:=frozen_of_row w3 (W.heap.size+1) 4 _ _ rd;have r5:w3.cell? ⟨W.heap.size+1,5,none⟩=some (.slice ya yk yo):=(cell_of_row w3 (W.heap.size+1) 5 _ _ _ rd).trans rfl;have rf5:=frozen_of_row w3 (W.heap.size+1) 5 _ _ rd;have r6:w3.cell? ⟨W.heap.size+1,6,none⟩=some (.int .i64 yc):=(cell_of_row w3 (W.heap.size+1) 6 _ _ _ rd).trans rfl;have rf6:=frozen_of_row w3 (W.heap.size+1) 6 _ _ rd;have r7:w3.cell? ⟨W.heap.size+1,7,none⟩=some (.int .i64 yi):=(cell_of_row w3 (W.heap.size+1) 7 _ _ _ rd).trans rfl;have rf7:=frozen_of_row w3 (W.heap.size+1) 7 _ _ rd;have r8:w3.cell? ⟨W.heap.size+1,8,none⟩=some (.pointer (some ⟨b,0,none⟩)):=(cell_of_row w3 (W.heap.size+1) 8 _ _ _ rd).trans rfl;have rf8:=frozen_of_row w3 (W.heap.size+1) 8 _ _ rd;have rL:W.heap.size+1<w3.heap.size:=(Array.getElem?_eq_some_iff.1 rd).1;have rN:¬ W.heap.size+1=w3.heap.size:=(by omega);clear rd;have BB2:Below W.heap.size W w3:=bstep BB.out hb;clear BB;have BB:Hid (Below W.heap.size W w3):=BB2;clear BB2 hb;clear HL)
      | (go_at_call 141;refine (HO.out _).mono ?_;rintro e w9 ⟨rfl,hw9⟩;rw [hw9];clear hw9 w9 HO)
      | (go_at_call 142;refine (HR.out _ BB.out).mono ?_;rintro e w4 ⟨rfl,hb⟩;have BB2:Below W.heap.size W w4:=bstep BB.out hb;clear BB;have BB:Hid (Below W.heap.size W w4):=BB2;clear BB2 hb;clear HR))
    all_goals go_ret
    all_goals exact ⟨retB (by simp [*]),(by repeat (first|exact BB.out|exact Below.refl _ _|refine Below.setCell ?_ (by simp;try omega) _|refine Below.alloc ?_ (by have:=BB.out.size;simp;try omega) _|refine Below.drew ?_))⟩
structure P9 where
  nm:ByteArray
  ds:ByteArray
  fl:Int
  lo:Int
  st:Int
  sa:Option Addr
  sk:Nat
  so:Nat
  c:Int
  i:Int
def P9.id (x:P9):Int×Int:=(x.c,x.i)
def P9.cells (b:Nat) (x:P9):List Value:=[.string x.nm,.string x.ds,.int .i64 x.fl,.int .i64 x.lo,.int .i64 x.st,.slice x.sa x.sk x.so,.int .i64 x.c,.int .i64 x.i,.pointer (some ⟨b,0,none⟩)]
def P9.agg (b:Nat) (x:P9):Value:=.agg #[.string x.nm,.string x.ds,.int .i64 x.fl,.int .i64 x.lo,.int .i64 x.st,.slice x.sa x.sk x.so,.int .i64 x.c,.int .i64 x.i,.pointer (some ⟨b,0,none⟩)]
def flat9 (b:Nat) (l:List P9):List Value:=l.flatMap (P9.cells b)
theorem P9.cells_len (b:Nat) (x:P9):(x.cells b).length=9:=rfl
theorem flat9_app (b:Nat) (l r:List P9):flat9 b (l++r)=flat9 b l++flat9 b r:=List.flatMap_append
theorem flat9_cons (b:Nat) (x:P9) (r:List P9):flat9 b (x::r)=x.cells b++flat9 b r:=rfl
theorem flat9_length (b:Nat):∀ l:List P9,(flat9 b l).length=l.length * 9
  | []=>rfl
  | x::r=>by rw [flat9_cons,List.length_append,flat9_length b r,P9.cells_len,List.length_cons];omega
theorem flat9_at (b:Nat):∀ (l:List P9) (i:Nat) (x:P9) (j:Nat),l[i]?=some x→j<9→(flat9 b l)[i * 9+j]?=(x.cells b)[j]?
  | [],_,_,_,h,_=>by simp at h
  | y::r,0,x,j,h,hj=>by
    simp only [List.getElem?_cons_zero,Option.some.injEq] at h
    subst h
    rw [flat9_cons,Nat.zero_mul,Nat.zero_add,List.getElem?_append_left (by rw [P9.cells_len];exact hj)]
  | y::r,i+1,x,j,h,hj=>by
    rw [List.getElem?_cons_succ] at h
    rw [flat9_cons,List.getElem?_append_right (by rw [P9.cells_len];omega),P9.cells_len,show (i+1) * 9+j - 9=i * 9+j by omega]
    exact flat9_at b r i x j h hj
theorem flat9_take (b:Nat):∀ (k:Nat) (l:List P9),(flat9 b l).take (k * 9)=flat9 b (l.take k)
  | 0,l=>by simp [flat9]
  | k+1,[]=>by simp [flat9]
  | k+1,x::r=>by
    rw [List.take_succ_cons,flat9_cons,flat9_cons,← flat9_take b k r,List.take_append,P9.cells_len,show (k+1) * 9 - 9=k * 9 by omega,List.take_of_length_le (by rw [P9.cells_len];omega)]
theorem flat9_drop (b:Nat):∀ (k:Nat) (l:List P9),(flat9 b l).drop (k * 9)=flat9 b (l.drop k)
  | 0,l=>by simp
  | k+1,[]=>by simp [flat9]
  | k+1,x::r=>by
    rw [List.drop_succ_cons,flat9_cons,← flat9_drop b k r,List.drop_append,P9.cells_len,show (k+1) * 9 - 9=k * 9 by omega,List.drop_of_length_le (by rw [P9.cells_len];omega),List.nil_append]
theorem flat9_one (b:Nat) (l:List P9):∀ u∈flat9 b l,u.oneCell'=true:=by
  intro u hu
  rw [flat9,List.mem_flatMap] at hu
  obtain ⟨x,_,hx⟩:=hu
  simp only [P9.cells,List.mem_cons,List.not_mem_nil,or_false] at hx
  rcases hx with rfl|rfl|rfl|rfl|rfl|rfl|rfl|rfl|rfl <;> rfl
def OkP (ps:List Plc) (x:P9):Prop:=∃ m,methI ps x.c x.i=some m∧x.nm=m.nm∧x.ds=m.ds∧x.fl=m.fl
def eqI (c a:Int×Int):Bool:=(c.1 == a.1)&&(c.2 == a.2)
theorem eqI_iff {c a:Int×Int}:eqI c a=true↔c=a:=by
  obtain ⟨c1,c2⟩:=c;obtain ⟨a1,a2⟩:=a;simp [eqI]
def plI (ps:List Plc) (c a:Int×Int):Bool:=match methI ps c.1 c.2,methI ps a.1 a.2 with
  | some x,some y=>plnB ps x.nm x.ds x.fl c.1 y.nm y.ds y.fl a.1
  | _,_=>false
def stI (ps:List Plc) (c:Int×Int):Bool:=match methI ps c.1 c.2 with
  | some x=>stB x.fl
  | none=>false
theorem OkP.pl {ps:List Plc} {x y:P9} (hx:OkP ps x) (hy:OkP ps y):plnB ps x.nm x.ds x.fl x.c y.nm y.ds y.fl y.c=plI ps x.id y.id:=by
  obtain ⟨m,h1,h2,h3,h4⟩:=hx
  obtain ⟨n,g1,g2,g3,g4⟩:=hy
  simp only [plI,P9.id,h1,g1,h2,h3,h4,g2,g3,g4]
theorem OkP.st {ps:List Plc} {x:P9} (hx:OkP ps x):stB x.fl=stI ps x.id:=by
  obtain ⟨m,h1,_,_,h4⟩:=hx
  simp only [stI,P9.id,h1,h4]
def gth1 (ps:List Plc) (a:Int×Int) (kept:List (Int×Int)) (c:Int×Int):List (Int×Int):=if (eqI c a&&!stI ps c)||kept.any (plI ps c) then kept++[c] else kept
def gthL (ps:List Plc) (a:Int×Int) (l:List (Int×Int)):List (Int×Int):=l.foldl (gth1 ps a) []
theorem gthL_snoc (ps:List Plc) (a:Int×Int) (l:List (Int×Int)) (c:Int×Int):gthL ps a (l++[c])=gth1 ps a (gthL ps a l) c:=by
  rw [gthL,List.foldl_append];rfl
theorem gthL_len (ps:List Plc) (a:Int×Int) (l:List (Int×Int)):(gthL ps a l).length≤l.length:=by
  have:∀ (l k:List (Int×Int)),(l.foldl (gth1 ps a) k).length≤k.length+l.length:=by
    intro l
    induction l with
    | nil=>intro k;simp
    | cons c r ih =>
      intro k
      rw [List.foldl_cons]
      refine Nat.le_trans (ih _) ?_
      rw [gth1]
      split <;> simp <;> omega
  simpa [gthL] using this l []
def nskL (ps:List Plc) (nm ds:ByteArray) (a:Int):List Nat→List (Int×Int)
  | []=>[]
  | c::r=>if (fndI ps (c:Int) nm ds).2=0∧(c:Int)≠a then ((c:Int),(fndI ps (c:Int) nm ds).1)::nskL ps nm ds a r else nskL ps nm ds a r
theorem nskL_app (ps:List Plc) (nm ds:ByteArray) (a:Int):∀ l r:List Nat,nskL ps nm ds a (l++r)=nskL ps nm ds a l++nskL ps nm ds a r
  | [],r=>rfl
  | c::l,r=>by
    rw [List.cons_append,nskL,nskL,nskL_app ps nm ds a l r]
    split <;> rfl
theorem nskL_len (ps:List Plc) (nm ds:ByteArray) (a:Int):∀ l:List Nat,(nskL ps nm ds a l).length≤l.length
  | []=>Nat.le_refl _
  | c::l=>by
    have:=nskL_len ps nm ds a l
    rw [nskL]
    split <;> simp <;> omega
def askL (ps:List Plc) (m:HM) (a:Int×Int) (l:List Nat):List (Int×Int):=a::nskL ps m.nm m.ds a.1 l
def ovrI (ps:List Plc) (c a:Int×Int):Bool×Int:=match methI ps c.1 c.2,methI ps a.1 a.2 with
  | some _,some m=>((gthL ps a (askL ps m a (chL (ps.map nd) c.1.toNat).reverse)).any (eqI c),0)
  | _,_=>(false,3)
end Go.Proofs.YtjlfnelihbdhjaaGreat
