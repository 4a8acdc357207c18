import Derived.Test.YtlohdfpinmdljaaGreatDoorEnAb
import Derived.Test.YtlohdfpinmdljaaGreatDoorChF
import Derived.Test.YtlohdfpinmdljaaGreatDoorChE
import Derived.Test.YtlohdfpinmdljaaGreatDoorWdB
set_option maxRecDepth 100000
namespace Go.Proofs.YtlohdfpinmdljaaGreatDoor.Sk
open Go.RowKit Go.Maps
set_option maxHeartbeats 20000000 in
theorem cal_st (W:World) (b:Nat) (d:Int) (y:Bool) (c n ds:ByteArray) (tx:Int) (ts:ByteArray) (m1 m2:Int)
    (HA:Hid (∀ w,Below W.heap.size W w→Calls Tryz.prog 73 #[.pointer (some ⟨b,0,none⟩),.int .i64 d,.int .i64 4,.agg #[.int .i64 tx,.string ts]] w fun e w'=>e=.returned (.int .i64 0)∧Below w.heap.size w w'))
    (HF:Hid (∀ w,Below W.heap.size W w→Calls Tryz.prog 74 #[.int .i64 4,.agg #[.bool y,.string c,.string n,.string ds]] w fun e w'=>e=.returned (.int .i64 0)∧Below w.heap.size w w'))
    (HM:Hid (∀ w,Below W.heap.size W w→Calls Tryz.prog 75 #[.pointer (some ⟨b,0,none⟩),.int .i64 d,.agg #[.bool y,.string c,.string n,.string ds]] w fun e w'=>e=.returned (.tuple #[.agg #[.int .i64 m1,.int .i64 m2],.int .i64 0])∧Below w.heap.size w w'))
    (HT:Hid (∀ w,Below W.heap.size W w→Calls Tryz.prog 76 #[.pointer (some ⟨b,0,none⟩),.int .i64 4,.agg #[.int .i64 m1,.int .i64 m2]] w fun e w'=>e=.returned (.bool true)∧Below w.heap.size w w')) :
    Calls Tryz.prog 45 #[.pointer (some ⟨b,0,none⟩),.int .i64 d,.int .i64 4,.agg #[.bool y,.string c,.string n,.string ds],.agg #[.int .i64 tx,.string ts]] W fun e w'=>e=.returned (.tuple #[.agg #[.int .i64 m1,.int .i64 m2],.int .i64 0])∧Below W.heap.size W w':=by
  have BB:Hid (Below W.heap.size W W):=Below.refl _ _
  go_enter Tryz.func45,Tryz.ntmps45
  go_wp2_with (first
    | (go_at_call 73;refine (HA.out _ (by repeat (first|refine Below.setCell ?_ (by simp;try omega) _|refine Below.alloc ?_ (by have:=BB.out.size;simp;try omega) _|refine Below.drew ?_|exact BB.out))).mono ?_;rintro e w1 ⟨rfl,hb⟩;have rd:=kp4 (n:=W.heap.size) hb (by first|omega|(simp;try omega)) (hkeep (hkeep (halloc1 _ _)));(try clear rB r0 r1 r2 r3 rf rL rN);obtain ⟨rB,r0,r1,r2,r3,rf,rL,rN⟩:=rd;have td:=kp2 (n:=W.heap.size+1) hb (by first|omega|(simp;try omega)) (hkeep (halloc2 _ _ (by simp)));(try clear tB t0 t1 tf tL tN);obtain ⟨tB,t0,t1,tf,tL,tN⟩:=td;have zd:=kp2 (n:=W.heap.size+2) hb (by first|omega|(simp;try omega)) (halloc2 _ _ (by simp));(try clear zB z0 z1 zf zL zN);obtain ⟨zB,z0,z1,zf,zL,zN⟩:=zd;have BB2:Below W.heap.size W w1:=bstep (by repeat (first|refine Below.setCell ?_ (by simp;try omega) _|refine Below.alloc ?_ (by have:=BB.out.size;simp;try omega) _|refine Below.drew ?_|exact BB.out)) hb;clear BB;have BB:Hid (Below W.heap.size W w1):=BB2;clear BB2 hb)
    | (go_at_call 74;refine (HF.out _ (by repeat (first|refine Below.setCell ?_ (by simp;try omega) _|refine Below.alloc ?_ (by have:=BB.out.size;simp;try omega) _|refine Below.drew ?_|exact BB.out))).mono ?_;rintro e w2 ⟨rfl,hb⟩;have rd:=kp4 (n:=W.heap.size) hb (by first|omega|(simp;try omega)) (rB.out);(try clear rB r0 r1 r2 r3 rf rL rN);obtain ⟨rB,r0,r1,r2,r3,rf,rL,rN⟩:=rd;have td:=kp2 (n:=W.heap.size+1) hb (by first|omega|(simp;try omega)) (tB.out);(try clear tB t0 t1 tf tL tN);obtain ⟨tB,t0,t1,tf,tL,tN⟩:=td;have zd:=kp2 (n:=W.heap.size+2) hb (by first|omega|(simp;try omega)) (zB.out);(try clear zB z0 z1 zf zL zN);obtain ⟨zB,z0,z1,zf,zL,zN⟩:=zd;have BB2:Below W.heap.size W w2:=bstep (by repeat (first|refine Below.setCell ?_ (by simp;try omega) _|refine Below.alloc ?_ (by have:=BB.out.size;simp;try omega) _|refine Below.drew ?_|exact BB.out)) hb;clear BB;have BB:Hid (Below W.heap.size W w2):=BB2;clear BB2 hb)
    | (go_at_call 75;refine (HM.out _ (by repeat (first|refine Below.setCell ?_ (by simp;try omega) _|refine Below.alloc ?_ (by have:=BB.out.size;simp;try omega) _|refine Below.drew ?_|exact BB.out))).mono ?_;rintro e w3 ⟨rfl,hb⟩;have rd:=kp4 (n:=W.heap.size) hb (by first|omega|(simp;try omega)) (rB.out);(try clear rB r0 r1 r2 r3 rf rL rN);obtain ⟨rB,r0,r1,r2,r3,rf,rL,rN⟩:=rd;have td:=kp2 (n:=W.heap.size+1) hb (by first|omega|(simp;try omega)) (tB.out);(try clear tB t0 t1 tf tL tN);obtain ⟨tB,t0,t1,tf,tL,tN⟩:=td;have zd:=kp2 (n:=W.heap.size+2) hb (by first|omega|(simp;try omega)) (zB.out);(try clear zB z0 z1 zf zL zN);obtain ⟨zB,z0,z1,zf,zL,zN⟩:=zd;have BB2:Below W.heap.size W w3:=bstep (by repeat (first|refine Below.setCell ?_ (by simp;try omega) _|refine Below.alloc ?_ (by have:=BB.out.size;simp;try omega) _|refine Below.drew ?_|exact BB.out)) hb;clear BB;have BB:Hid (Below W.heap.size W w3):=BB2;clear BB2 hb)
    | (go_at_call 76;refine (HT.out _ (by repeat (first|refine Below.setCell ?_ (by simp;try omega) _|refine Below.alloc ?_ (by have:=BB.out.size;simp;try omega) _|refine Below.drew ?_|exact BB.out))).mono ?_;rintro e w4 ⟨rfl,hb⟩;have rd:=kp4 (n:=W.heap.size) hb (by first|omega|(simp;try omega)) (hkeep rB.out);(try clear rB r0 r1 r2 r3 rf rL rN);obtain ⟨rB,r0,r1,r2,r3,rf,rL,rN⟩:=rd;have td:=kp2 (n:=W.heap.size+1) hb (by first|omega|(simp;try omega)) (hkeep tB.out);(try clear tB t0 t1 tf tL tN);obtain ⟨tB,t0,t1,tf,tL,tN⟩:=td;have zd:=kp2 (n:=W.heap.size+2) hb (by first|omega|(simp;try omega)) (hkeep zB.out);(try clear zB z0 z1 zf zL zN);obtain ⟨zB,z0,z1,zf,zL,zN⟩:=zd;have gd:=kp2 (n:=w3.heap.size) hb (by first|omega|(simp;try omega)) (halloc1 _ _);(try clear gB g0 g1 gf gL gN);obtain ⟨gB,g0,g1,gf,gL,gN⟩:=gd;have BB2:Below W.heap.size W w4:=bstep (by repeat (first|refine Below.setCell ?_ (by simp;try omega) _|refine Below.alloc ?_ (by have:=BB.out.size;simp;try omega) _|refine Below.drew ?_|exact BB.out)) hb;clear BB;have BB:Hid (Below W.heap.size W w4):=BB2;clear BB2 hb))
  exact bodyPost_ret (v:=.tuple #[.agg #[.int .i64 m1,.int .i64 m2],.int .i64 0]) (by simp [results,Tryz.results45,go_sem, *]) rfl ⟨rfl,(by repeat (first|refine Below.setCell ?_ (by simp;try omega) _|refine Below.alloc ?_ (by have:=BB.out.size;simp;try omega) _|refine Below.drew ?_|exact BB.out))⟩
theorem cal_static {b:Nat} {ps:List Plc} {W:World} (h:WAt b ps W) (hi:WI ps) (d:Int) (y:Bool) (c n ds:ByteArray) (hc:c.size≤maxLen) (hn:n.size≤maxLen) (hd:ds.size≤maxLen) (m1 m2:Int) (e1:casI ps d 4 0 ⟨#[]⟩=0) (e2:crfI 4 y c n ds=0) (e3:metR ps d y c n ds=((m1,m2),0)) (e4:ftsB ps 4 (m1,m2)=true):Calls Tryz.prog 45 #[.pointer (some ⟨b,0,none⟩),.int .i64 d,.int .i64 4,.agg #[.bool y,.string c,.string n,.string ds],.agg #[.int .i64 0,.string ⟨#[]⟩]] W fun e w'=>e=.returned (.tuple #[.agg #[.int .i64 m1,.int .i64 m2],.int .i64 0])∧Below W.heap.size W w' :=
  cal_st W b d y c n ds 0 ⟨#[]⟩ m1 m2 (fun w hb=>by have:=cas_c (h.below hb) d 4 0 ⟨#[]⟩ (Nat.zero_le _);rw [e1] at this;exact this) (fun w _=>by have:=crf_c 4 y c n ds hc hn hd w;rw [e2] at this;exact this) (fun w hb=>by have:=met_c (h.below hb) hi d y c n ds hc hn hd;rw [e3] at this;exact this) (fun w hb=>by have:=fit_c (h.below hb) hi 4 m1 m2;rw [e4] at this;exact this)
structure WyAt (w:World) (rb ge lb b:Nat):Prop where
  r:w.cell? ⟨rb,0,none⟩=some (.pointer (some ⟨ge,0,none⟩))
  g:w.cell? ⟨ge,0,none⟩=some (.pointer (some ⟨lb,0,none⟩))
  l:w.cell? ⟨lb,0,none⟩=some (.pointer (some ⟨b,0,none⟩))
theorem WyAt.below {w w':World} {rb ge lb b:Nat} (h:WyAt w rb ge lb b) (hb:Below w.heap.size w w'):WyAt w' rb ge lb b:=⟨kc hb h.r,kc hb h.g,kc hb h.l⟩
theorem lwld_e (lb:Nat) (x:Value) (W:World) (h:W.cell? ⟨lb,0,none⟩=some x):Calls Tryz.prog 42 #[.pointer (some ⟨lb,0,none⟩)] W fun e w'=>e=.returned x∧w'=W:=by
  go_enter Tryz.func42,Tryz.ntmps42
  go_wp2
  go_ret
  exact ⟨rfl,rfl⟩
theorem callWld (vs:Array Value) (w:World):(callFunc 42 vs).run Tryz.prog w=.ok (.enter 42 vs) w:=by simp [go_sem]
set_option maxHeartbeats 2000000 in
theorem bgn_e {W:World} {rb ge lb b:Nat} (h:WyAt W rb ge lb b) (y:Bool) (c n ds:ByteArray) (x:Int) (s:ByteArray) (d er:Int)
    (HP:Hid (∀ w,Below W.heap.size W w→Calls Tryz.prog 35 #[.string c] w fun e w'=>e=.returned (.tuple #[.agg #[.int .i64 x,.string s],.int .i64 0])∧Below w.heap.size w w'))
    (HH:Hid (∀ w,Below W.heap.size W w→Calls Tryz.prog 78 #[.pointer (some ⟨b,0,none⟩),.agg #[.int .i64 x,.string s]] w fun e w'=>e=.returned (.tuple #[.int .i64 d,.int .i64 er])∧Below w.heap.size w w')) :
    Calls Tryz.prog 46 #[.pointer (some ⟨rb,0,none⟩),.agg #[.bool y,.string c,.string n,.string ds]] W fun e w'=>e=.returned (.int .i64 d)∧Below W.heap.size W w':=by
  have HO:Hid (∀ w,Calls Tryz.prog 82 #[.agg #[.int .i64 x,.string s],.int .i64 0] w fun e w'=>e=.returned (.agg #[.int .i64 x,.string s])∧Below w.heap.size w w'):=fun w=>oT_ty x s w
  have HY:Hid (∀ w,Below W.heap.size W w→WyAt w rb ge lb b):=fun w hb=>h.below hb
  have HWl:Hid (∀ w,WyAt w rb ge lb b→Calls Tryz.prog 42 #[.pointer (some ⟨lb,0,none⟩)] w fun e w'=>e=.returned (.pointer (some ⟨b,0,none⟩))∧w'=w):=fun w hw=>lwld_e lb _ w hw.l
  clear h
  go_enter Tryz.func46,Tryz.ntmps46
  go_upto_region 2 with (first
    | (go_at_call 82;refine (HO.out _).mono ?_;rintro e w2 ⟨rfl,hb⟩;have B2:Hid (Below W.heap.size W w2):=Below.step B1.out hb;clear hb B1)
    | (go_at_call 35;refine (HP.out _ (by repeat (first|exact Below.refl _ _|refine Below.setCell ?_ (by simp;try omega) _|refine Below.alloc ?_ (by simp;try omega) _|refine Below.drew ?_))).mono ?_;rintro e w1 ⟨rfl,hb⟩;have B1:Hid (Below W.heap.size W w1):=Below.step (by repeat (first|exact Below.refl _ _|refine Below.setCell ?_ (by simp;try omega) _|refine Below.alloc ?_ (by simp;try omega) _|refine Below.drew ?_)) hb;clear hb))
  refine wp_name (fun U hU=>?_)
  have BU:Hid (Below W.heap.size W U):=by rw [hU];exact B2.out.alloc B2.out.size _
  have YU:=HY.out U BU.out
  have y1:=YU.r
  have y2:=YU.g
  have y3:=YU.l
  have HYU:Hid (WyAt U rb ge lb b):=YU
  have t0:U.cell? ⟨w2.heap.size,0,none⟩=some (.int .i64 x):=by rw [hU];simp
  have t1:U.cell? ⟨w2.heap.size,1,none⟩=some (.string s):=by rw [hU];simp
  clear hU YU
  go_region_with (first
    | (go_at_call 78;refine (HH.out _ (BU.out.drew)).mono ?_;rintro e w4 ⟨rfl,hb⟩;have B4:Hid (Below W.heap.size W w4):=Below.step BU.out.drew hb;clear hb)
    | (go_at_call 42;refine (HWl.out _ (HYU.out.below ((Below.refl _ _).drew))).mono ?_;rintro e w3 ⟨rfl,hw⟩;obtain rfl:=hw.symm))
  all_goals go_wp2
  all_goals go_ret
  all_goals exact ⟨rfl,B4.out⟩
def run0 (ge he sb:Nat) (fu:Int):Array Value:=#[.pointer (some ⟨ge,0,none⟩),.pointer (some ⟨he,0,none⟩),.pointer (some ⟨sb,0,none⟩),.slice none 0 0,.pointer none,.slice none 0 0,.int .i64 fu,.string ⟨#[]⟩,.int .i64 0,.bool false,.bool false,.int .i64 0,.int .i64 0]
theorem six_kc {V w:World} {n:Nat} {t:TypeId} {a0 a1 a2 a3 a4 a5:Value} (hb:Below V.heap.size V w) (h:V.heap[n]?=some (.cells #[a0,a1,a2,a3,a4,a5] t (0,0))):Hid (w.heap[n]?=some (.cells #[a0,a1,a2,a3,a4,a5] t (0,0)))∧w.cell? ⟨n,0,none⟩=some a0∧w.cell? ⟨n,1,none⟩=some a1∧w.cell? ⟨n,2,none⟩=some a2∧w.cell? ⟨n,3,none⟩=some a3∧w.cell? ⟨n,4,none⟩=some a4∧w.cell? ⟨n,5,none⟩=some a5∧(∀ k,w.frozen? ⟨n,k,none⟩=false)∧n<w.heap.size∧¬ n=w.heap.size:=by
  have hl:=(Array.getElem?_eq_some_iff.1 h).1
  have h2:=(hb.block n hl).trans h
  have:=(Array.getElem?_eq_some_iff.1 h2).1
  exact ⟨h2,(cell_of_row w n 0 _ _ _ h2).trans rfl,(cell_of_row w n 1 _ _ _ h2).trans rfl,(cell_of_row w n 2 _ _ _ h2).trans rfl,(cell_of_row w n 3 _ _ _ h2).trans rfl,(cell_of_row w n 4 _ _ _ h2).trans rfl,(cell_of_row w n 5 _ _ _ h2).trans rfl,fun k=>frozen_of_row w n k _ _ h2,this,by omega⟩
theorem six_set {w:World} {n N:Nat} {t:TypeId} {z0 z1 z2 z3 z4 z5:Value} (h:w.heap[n]?=some (.cells #[z0,z1,z2,z3,z4,z5] t (0,0))) (hN:N≤n) (a0 a1 a2 a3 a4 a5:Value):((((((w.setCell ⟨n,0,none⟩ a0).setCell ⟨n,1,none⟩ a1).setCell ⟨n,2,none⟩ a2).setCell ⟨n,3,none⟩ a3).setCell ⟨n,4,none⟩ a4).setCell ⟨n,5,none⟩ a5).heap[n]?=some (.cells #[a0,a1,a2,a3,a4,a5] t (0,0))∧Tch (fun j=>j=n) w ((((((w.setCell ⟨n,0,none⟩ a0).setCell ⟨n,1,none⟩ a1).setCell ⟨n,2,none⟩ a2).setCell ⟨n,3,none⟩ a3).setCell ⟨n,4,none⟩ a4).setCell ⟨n,5,none⟩ a5)∧Below N w ((((((w.setCell ⟨n,0,none⟩ a0).setCell ⟨n,1,none⟩ a1).setCell ⟨n,2,none⟩ a2).setCell ⟨n,3,none⟩ a3).setCell ⟨n,4,none⟩ a4).setCell ⟨n,5,none⟩ a5):=by
  refine ⟨?_,?_,?_⟩
  · rw [Go.Joins.block_setCell (Go.Joins.block_setCell (Go.Joins.block_setCell (Go.Joins.block_setCell (Go.Joins.block_setCell (Go.Joins.block_setCell h _) _) _) _) _) _]
    rfl
  · exact ((((((Tch.refl (fun j=>j=n) w).set (.inl rfl) _).set (.inl rfl) _).set (.inl rfl) _).set (.inl rfl) _).set (.inl rfl) _).set (.inl rfl) _
  · exact (((((((Below.refl _ w).setCell hN _).setCell hN _).setCell hN _).setCell hN _).setCell hN _).setCell hN _)
theorem met_fin {W w w':World} {n g c L:Nat} {xs:List Value} {A B0:Array Value} {ci cj:Int} (hw:w'.heap[n]?=some (.cells A 41 (0,0))) (hn:W.heap.size<n) (ht:Tch (fun j=>j=n) w w') (hB:Below W.heap.size W w) (hO:w.ownsRow W.heap.size 28 7 (.slice (some ⟨g,0,none⟩) L c) L xs) (h0:w.heap[n]?=some (.cells B0 41 (0,0))∨w.heap.size≤n) (hI:w.heap[W.heap.size]?=some (.cells #[.int .i64 ci,.int .i64 cj] 138 (0,0))):W.heap.size<n∧Below W.heap.size W w'∧w'.ownsRow W.heap.size 28 7 (.slice (some ⟨g,0,none⟩) L c) L xs∧w'.heap[W.heap.size]?=some (.cells #[.int .i64 ci,.int .i64 cj] 138 (0,0)):=by
  refine ⟨hn,hB.trans (ht.below hB.size (fun j hj=>by rw [hj];omega)),own_keep hO (fun g hg=>ht.blk g (hO.lt g hg).2 (fun e=>?_)),(ht.blk _ (Array.getElem?_eq_some_iff.1 hI).1 (by omega)).trans hI⟩
  subst e
  rcases h0 with h0|h0
  · exact own_type hO h0 (by decide) hg
  · have:=(hO.lt _ hg).2;omega
def flatN:List (Int×Int)→List Value
  | []=>[]
  | i::r=>(inC i).toList++flatN r
theorem flatN_at:∀ (l:List (Int×Int)) (k:Nat) (i:Int×Int),l[k]?=some i→∀ j,j<7→(flatN l)[k * 7+j]?=(inC i)[j]?
  | [],k,i,h,j,hj=>by simp at h
  | a::r,0,i,h,j,hj=>by
    simp at h;subst h
    rw [flatN,Nat.zero_mul,Nat.zero_add,List.getElem?_append_left (by simpa [inC] using hj)]
    simp
  | a::r,k+1,i,h,j,hj=>by
    have:=flatN_at r k i (by simpa using h) j hj
    rw [flatN,List.getElem?_append_right (by simp [inC];omega),← this]
    congr 1
    simp [inC];omega
theorem setl_r {W:World} {K:Nat→Prop} {sb:Nat} {p:PF} (h:StA W K sb [p]) (i:Nat) (hi:i<p.ls.length) (v1:Bool) (v2:Int):Calls Tryz.prog 86 #[.pointer (some ⟨sb,0,none⟩),.int .i64 (i:Int),.agg #[.bool v1,.int .i64 v2]] W fun e w'=>e=.returned (.int .i64 0)∧SkR K W w' sb [{ p with ls:=p.ls.set i (v1,v2) }]:=by
  obtain ⟨fs,fv,h1,h2⟩:=h
  match fs,h2 with
  | [],h2=>simp at h2
  | f::r,h2 =>
    simp at h2
    obtain ⟨rfl,rfl⟩:=h2
    refine (setl_on h1 i hi (v1,v2)).mono ?_
    rintro e w' ⟨rfl,hk⟩
    exact ⟨rfl,SkP.r ⟨_,hk,rfl⟩⟩
def lsI (lo:Nat) (vs:List Int) (i:Nat):List (Bool×Int):=(vs.take i).map (fun x=>(false,x))++List.replicate (lo - i) (false,0)
theorem lsI_zero (lo:Nat) (vs:List Int):lsI lo vs 0=List.replicate lo (false,0):=by simp [lsI]
theorem lsI_len {lo:Nat} {vs:List Int} {i:Nat} (h:i≤vs.length) (h2:vs.length≤lo):(lsI lo vs i).length=lo:=by simp [lsI];omega
theorem lsI_set {lo:Nat} {vs:List Int} {i:Nat} {x:Int} (h:vs[i]?=some x) (h2:vs.length≤lo):(lsI lo vs i).set i (false,x)=lsI lo vs (i+1):=by
  have hi:=(List.getElem?_eq_some_iff.1 h).1
  have e1:((vs.take i).map (fun x=>((false,x):Bool×Int))).length=i:=by simp;omega
  rw [lsI,List.set_append,if_neg (by omega),e1,Nat.sub_self,lsI,List.take_add_one,h,Option.toList_some,List.map_append,List.append_assoc]
  congr 1
  obtain ⟨d,hd⟩:∃ d,lo - i=d+1:=⟨lo - i - 1,by omega⟩
  rw [hd,List.replicate_succ,List.set_cons_zero,show lo - (i+1)=d by omega]
  rfl
def noFr:Value:=.agg #[.string ⟨#[]⟩,.string ⟨#[]⟩,.int .i64 0,.int .i64 0,.int .i64 0,.slice none 0 0,.int .i64 0,.int .i64 0,.int .i64 0]
theorem Tryz.hinfoFm:(Tryz.prog.info? 149).map (fun i=>(i.zero,i.size,i.bytes))=some (some noFr,9,104):=by kernel_rfl
theorem ru_fin {W wr X w5:World} {K:Nat→Prop} {rb:Nat} {A:RA} {p:PF} (s:StA wr K A.sb [p]) (hrr:wr.heap[rb]?=some (.cells (run0 A.ge A.he A.sb A.fu) 88 (0,0))) (hba:A.ba=.pointer none) (hbb:A.bb=.slice none 0 0) (hrW:rb<W.heap.size)
    (ho:wr.ownsRow W.heap.size 28 7 (.slice (some ⟨A.cb,0,none⟩) A.code.length A.cc) A.code.length (flatN A.code)) (hX:Below wr.heap.size wr X) (hG:X.grownBy w5 none) (O5:w5.ownsRow 0 149 9 (.slice (some ⟨A.fb,0,none⟩) 1 A.fc) 1 (frmC A 0)) (hg:wr.heap.size≤A.fb) (nr:¬ K rb) (nc:¬ K A.cb):RuAt (w5.setCell ⟨rb,3,none⟩ (.slice (some ⟨A.fb,0,none⟩) 1 A.fc)) K rb A 0 0 p∧Tch (fun j=>j=rb) wr (w5.setCell ⟨rb,3,none⟩ (.slice (some ⟨A.fb,0,none⟩) 1 A.fc)):=by
  have hc:=ho.lt A.cb rfl
  have far:∀ j,j<wr.heap.size→w5.heap[j]?=wr.heap[j]?:=fun j hj=>(hG.block j (Nat.lt_of_lt_of_le hj hX.size) (fun e=>by cases e)).trans (hX.block j hj)
  have far2:∀ j,j≠rb→(w5.setCell ⟨rb,3,none⟩ (.slice (some ⟨A.fb,0,none⟩) 1 A.fc)).heap[j]?=w5.heap[j]?:=fun j hj=>Below.heap_setCell _ _ _ _ hj
  have hz:(w5.setCell ⟨rb,3,none⟩ (.slice (some ⟨A.fb,0,none⟩) 1 A.fc)).heap.size=w5.heap.size:=by simp [World.setCell]
  have hz5:wr.heap.size≤w5.heap.size:=Nat.le_trans hX.size hG.size
  have hfr:A.fb≠rb:=by omega
  refine ⟨{ sk:=s.keep (by omega) (fun j hj hk=>(far2 j (fun e=>nr (e ▸ hk))).trans (far j hj)),hr:=?_,hf:=own_keep O5 (fun x hx=>by obtain rfl:A.fb=x:=(by simpa [Value.ownBlock] using hx);exact far2 _ hfr),hc:=?_,cl:=by omega,nr:=nr,nf:=fun x=>by have:=s.lt x;omega,nc:=nc,rf:=hfr.symm,rc:=by omega,fc:=by omega },?_⟩
  · rw [Go.Joins.block_setCell ((far rb (by omega)).trans hrr),runC,hba,hbb];rfl
  · intro k i hi j hj
    have hl:=(List.getElem?_eq_some_iff.1 hi).1
    have e:(w5.setCell ⟨rb,3,none⟩ (.slice (some ⟨A.fb,0,none⟩) 1 A.fc)).cell? ⟨A.cb,k * 7+j,none⟩=wr.cell? ⟨A.cb,k * 7+j,none⟩:=by
      simp only [World.cell?,far2 A.cb (by omega),far A.cb hc.2]
    rw [e,← flatN_at _ k i hi j hj]
    exact ho.cellAt _ (by omega)
  · have t1:Tch (fun j=>j=rb) wr w5:=((Tch.refl _ wr).bel hX).grown hG (fun k hk=>by cases hk)
    exact t1.set (.inl rfl) _
theorem callMth (vs:Array Value) (w:World):(callFunc 84 vs).run Tryz.prog w=.ok (.enter 84 vs) w:=by simp [go_sem]
theorem callOTm (vs:Array Value) (w:World):(callFunc 83 vs).run Tryz.prog w=.ok (.enter 83 vs) w:=by simp [go_sem]
set_option maxHeartbeats 4000000 in
theorem enter_e {W:World} {rb ge lb b:Nat} (h:WyAt W rb ge lb b) (he sb:Nat) (fu:Int) (hr:W.heap[rb]?=some (.cells (run0 ge he sb fu) 88 (0,0))) {K0:Nat→Prop} (hst:StA W K0 sb []) (hn:¬ K0 rb)
    (ci cj:Int) (nm ds:ByteArray) (fl lo st:Int) (code:List (Int×Int)) (hlo:0≤lo∧lo≤40) (hsto:0≤st∧st≤40)
    (HM:Hid (∀ w,Below W.heap.size W w→Calls Tryz.prog 84 #[.pointer (some ⟨b,0,none⟩),.agg #[.int .i64 ci,.int .i64 cj]] w fun e w'=>(∃ g c,e=.returned (.tuple #[.agg #[.string nm,.string ds,.int .i64 fl,.int .i64 lo,.int .i64 st,(.slice (some ⟨g,0,none⟩) code.length c)],.int .i64 0])∧w'.ownsRow w.heap.size 28 7 (.slice (some ⟨g,0,none⟩) code.length c) code.length (flatN code))∧Below w.heap.size w w'))
    (vs:List Int) (va:Option Addr) (vc:Nat) (hv:∀ k x,vs[k]?=some x→∃ g,va=some ⟨g,0,none⟩∧¬ K0 g∧W.cell? ⟨g,k * 2,none⟩=some (.bool false)∧W.cell? ⟨g,k * 2+1,none⟩=some (.int .i64 x)) (hvl:(vs.length:Int)≤lo) :
    Calls Tryz.prog 47 #[.pointer (some ⟨rb,0,none⟩),.agg #[.int .i64 ci,.int .i64 cj],.slice va vs.length vc] W fun e w'=>e=.returned (.tuple #[])∧∃ fb fc g c K,RuAt w' K rb ⟨ge,he,sb,fb,fc,.pointer none,.slice none 0 0,fu,nm,ds,fl,lo,st,g,c,code,ci,cj⟩ 0 0 ⟨[],st.toNat,lsI lo.toNat vs vs.length⟩∧W.heap.size≤fb∧(∀ j,K j→K0 j∨W.heap.size≤j)∧Tch (fun j=>K0 j∨j=rb) W w':=by
  have HWl:Hid (∀ w,Below W.heap.size W w→Calls Tryz.prog 42 #[.pointer (some ⟨lb,0,none⟩)] w fun e w'=>e=.returned (.pointer (some ⟨b,0,none⟩))∧w'=w):=fun w hb=>lwld_e lb _ w (h.below hb).l
  have HO:Hid (∀ g c w,Calls Tryz.prog 83 #[.agg #[.string nm,.string ds,.int .i64 fl,.int .i64 lo,.int .i64 st,(.slice (some ⟨g,0,none⟩) code.length c)],.int .i64 0] w fun e w'=>e=.returned (.agg #[.string nm,.string ds,.int .i64 fl,.int .i64 lo,.int .i64 st,(.slice (some ⟨g,0,none⟩) code.length c)])∧Below w.heap.size w w'):=fun g c w=>oT_me nm ds fl lo st _ code.length c w
  have y1:=h.r
  have y2:=h.g
  have HY:Hid (∀ w,Below W.heap.size W w→WyAt w rb ge lb b):=fun w hb=>h.below hb
  have rl:rb<W.heap.size:=World.block_lt_of_cell? W _ y1
  have gl:ge<W.heap.size:=World.block_lt_of_cell? W _ y2
  have HEn:Hid (∀ w,Below W.heap.size W w→Calls Tryz.prog 85 #[.pointer (some ⟨sb,0,none⟩),.int .i64 lo,.int .i64 st] w fun e w'=>e=.returned (.int .i64 0)∧SkR K0 w w' sb [⟨[],st.toNat,lsI lo.toNat vs 0⟩]):=fun w hb=>by
    obtain ⟨fs,fv,h1,h2⟩:=hst.below hb
    refine (ent_c h1 lo st).mono ?_
    rintro e w' ⟨rfl,hk⟩
    rw [h2] at hk ⊢
    have g1:¬ (lo<0∨40<lo∨st<0∨40<st):=by omega
    have g2:¬ (4000<((wdP []:Nat):Int)+lo+st+3):=by simp [wdP];omega
    rw [enP,if_neg g1,if_neg g2] at hk
    rw [enE,if_neg g1,if_neg g2,lsI_zero]
    exact ⟨rfl,hk.r⟩
  have HCk:Hid (∀ w:World,Calls Tryz.prog 72 #[.int .i64 0] w fun e w'=>e=.returned (.tuple #[])∧w'=w):=fun w=>chk_ok w
  have K0l:Hid (∀ j,K0 j→j<W.heap.size):=fun j hj=>hst.lt hj
  have HR:Hid (W.heap[rb]?=some (.cells (run0 ge he sb fu) 88 (0,0))):=hr
  have HN:Hid (¬ K0 rb):=hn
  have HV:Hid _:=hv
  clear h hst hr hn hv
  go_enter Tryz.func47,Tryz.ntmps47
  go_upto_region 1 with fail
  go_cut [6] (fun s6 wx=>Hid (∃ n g c,s6=.pointer (some ⟨n,0,none⟩)∧wx.heap[n]?=some (.cells #[.string nm,.string ds,.int .i64 fl,.int .i64 lo,.int .i64 st,(.slice (some ⟨g,0,none⟩) code.length c)] 41 (0,0))∧W.heap.size<n∧Below W.heap.size W wx∧wx.ownsRow W.heap.size 28 7 (.slice (some ⟨g,0,none⟩) code.length c) code.length (flatN code)∧wx.heap[W.heap.size]?=some (.cells #[.int .i64 ci,.int .i64 cj] 138 (0,0))))
  case first =>
    go_region_law (first
      | (refine step_call2 rfl 83 callOTm (.tmp 19) (.tmp 20) 41 30 rfl (.agg #[.string nm,.string ds,.int .i64 fl,.int .i64 lo,.int .i64 st,(.slice (some ⟨g,0,none⟩) code.length c)]) (.int .i64 0) (by first|(simp [Act.eval];done)|(simp [Act.eval,Act.put];done)) (by first|(simp [Act.eval];done)|(simp [Act.eval,Act.put];done)) (HO.out _ _ _) ?_;rintro e w3 ⟨rfl,hb⟩;refine ⟨_,rfl,?_⟩;have B3:Hid (Below W.heap.size W w3):=(by first|exact Below.step B2.out hb|exact Below.step (B2.out.alloc B2.out.size _) hb);(first|(have xx:=six_kc hb yB.out;obtain ⟨xB,x0,x1,x2,x3,x4,x5,xf,xL,xN⟩:=xx)|(have xx:=six_kc (n:=w2.heap.size) (a0:=.string ⟨#[]⟩) (a1:=.string ⟨#[]⟩) (a2:=.int .i64 0) (a3:=.int .i64 0) (a4:=.int .i64 0) (a5:=.slice none 0 0) (t:=41) hb (haA w2 _ rfl);obtain ⟨xB,x0,x1,x2,x3,x4,x5,xf,xL,xN⟩:=xx)|skip);have O3:Hid (w3.ownsRow W.heap.size 28 7 (.slice (some ⟨g,0,none⟩) code.length c) code.length (flatN code)):=rowBelow (by first|exact O2.out|exact O2.out.alloc _) hb;have I3:Hid (w3.heap[W.heap.size]?=some (.cells #[.int .i64 ci,.int .i64 cj] 138 (0,0))):=(by first|exact (k2d hb I2.out).1|exact (k2d hb (hkA I2.out)).1);clear hb)
      | (refine step_call2 rfl 84 callMth (.tmp 16) (.tmp 17) 46 138 rfl (.pointer (some ⟨b,0,none⟩)) (.agg #[.int .i64 ci,.int .i64 cj]) (by simp [Act.eval]) (by simp [Act.eval]) (HM.out _ (by repeat (first|exact Below.refl _ _|refine Below.setCell ?_ (by simp;try omega) _|refine Below.alloc ?_ (by simp;try omega) _|refine Below.drew ?_))) ?_;rintro e w2 ⟨⟨g,c,rfl,ho⟩,hb⟩;refine ⟨_,rfl,?_⟩;have B2:Hid (Below W.heap.size W w2):=Below.step (by repeat (first|exact Below.refl _ _|refine Below.setCell ?_ (by simp;try omega) _|refine Below.alloc ?_ (by simp;try omega) _|refine Below.drew ?_)) hb;(first|(have yy:=six_kc (n:=W.heap.size+1) (a0:=.string ⟨#[]⟩) (a1:=.string ⟨#[]⟩) (a2:=.int .i64 0) (a3:=.int .i64 0) (a4:=.int .i64 0) (a5:=.slice none 0 0) (t:=41) hb (haA (W.alloc _) _ (szA _ _));obtain ⟨yB,y10,y11,y12,y13,y14,y15,yf,yL,yN⟩:=yy)|skip);have O2:Hid (w2.ownsRow W.heap.size 28 7 (.slice (some ⟨g,0,none⟩) code.length c) code.length (flatN code)):=Go.Joins.ownsRow_le ho (by simp;try omega);have I2:Hid (w2.heap[W.heap.size]?=some (.cells #[.int .i64 ci,.int .i64 cj] 138 (0,0))):=(by first|exact (k2d hb (haA W _ rfl)).1|exact (k2d hb (hkA (haA W _ rfl))).1);clear hb ho)
      | (refine step_call1 rfl 42 callWld (.tmp 15) 59 rfl (.pointer (some ⟨lb,0,none⟩)) (by first|(simp [Act.eval];done)|(simp [Act.eval,Act.put];done)) (HWl.out _ (by repeat (first|exact Below.refl _ _|refine Below.setCell ?_ (by simp;try omega) _|refine Below.alloc ?_ (by simp;try omega) _|refine Below.drew ?_))) ?_;rintro e w1 ⟨rfl,hw⟩;obtain rfl:=hw.symm;refine ⟨_,rfl,?_⟩))
    all_goals (go_wp2_with fail)
    all_goals go_meet
    all_goals first
      | (refine ⟨w3.heap.size,g,c,rfl,?_⟩;exact ⟨haA _ _ rfl,met_fin (B0:=#[]) (haA _ _ rfl) (Array.getElem?_eq_some_iff.1 I3.out).1 ((Tch.refl _ w3).alloc _) B3.out O3.out (.inr (Nat.le_refl _)) I3.out⟩)
      | (refine ⟨w2.heap.size,g,c,rfl,?_⟩;have z:=six_set (N:=W.heap.size) xB.out (by have:=B2.out.size;omega) (.string nm) (.string ds) (.int .i64 fl) (.int .i64 lo) (.int .i64 st) (.slice (some ⟨g,0,none⟩) code.length c);exact ⟨z.1,met_fin z.1 (Array.getElem?_eq_some_iff.1 I2.out).1 z.2.1 B3.out O3.out (.inl xB.out) I3.out⟩)
      | (refine ⟨W.heap.size+1,g,c,rfl,?_⟩;have z:=six_set (N:=W.heap.size) xB.out (by omega) (.string nm) (.string ds) (.int .i64 fl) (.int .i64 lo) (.int .i64 st) (.slice (some ⟨g,0,none⟩) code.length c);exact ⟨z.1,met_fin z.1 (Nat.lt_succ_self _) z.2.1 B3.out O3.out (.inl xB.out) I3.out⟩)
  case rest =>
    obtain ⟨n,g,c,rfl,hm,hnW,hbl,hcode,hid⟩:=hcut.out
    clear hcut HM HO HWl
    have HM6:Hid (wc.heap[n]?=some (.cells #[.string nm,.string ds,.int .i64 fl,.int .i64 lo,.int .i64 st,.slice (some ⟨g,0,none⟩) code.length c] 41 (0,0))):=hm
    have HC:Hid (wc.ownsRow W.heap.size 28 7 (.slice (some ⟨g,0,none⟩) code.length c) code.length (flatN code)):=hcode
    have HI:Hid (wc.heap[W.heap.size]?=some (.cells #[.int .i64 ci,.int .i64 cj] 138 (0,0))):=hid
    have HB:Hid (Below W.heap.size W wc):=hbl
    have m3:wc.cell? ⟨n,3,none⟩=some (.int .i64 lo):=(cell_of_row wc n 3 _ _ _ hm).trans rfl
    have m4:wc.cell? ⟨n,4,none⟩=some (.int .i64 st):=(cell_of_row wc n 4 _ _ _ hm).trans rfl
    have hrw:wc.heap[rb]?=_:=(hbl.block rb rl).trans HR.out
    have r2:wc.cell? ⟨rb,2,none⟩=some (.pointer (some ⟨sb,0,none⟩)):=(cell_of_row wc rb 2 _ _ _ hrw).trans rfl
    clear hm hcode hid hrw y1 y2
    go_upto_region 2 with fail
    go_cut [] (fun wx=>Hid (SkR K0 wc wx sb [⟨[],st.toNat,lsI lo.toNat vs 0⟩]))
    case first =>
      go_region_with (first
        | (go_at_call 72;refine (HCk.out _).mono ?_;rintro e w5 ⟨rfl,hw⟩;obtain rfl:=hw.symm)
        | (go_at_call 85;refine (HEn.out _ (by first|exact hbl|exact hbl.drew)).mono ?_;rintro e w4 ⟨rfl,hk⟩;have K4:Hid (SkR K0 wc w4 sb [⟨[],st.toNat,lsI lo.toNat vs 0⟩]):=hk.pre ((Below.refl _ _).drew);clear hk))
      all_goals (go_wp2_with fail)
      all_goals go_meet
      all_goals exact K4.out
    case rest =>
      obtain ⟨wb,rfl⟩:∃ wb,wb=wc:=⟨_,rfl⟩
      obtain ⟨K1,s1,a1,t1⟩:=hcut.out
      clear hcut HEn
      have S1:Hid (StA wb K1 sb [⟨[],st.toNat,lsI lo.toNat vs 0⟩]):=s1
      have A1:Hid (∀ j,K1 j→K0 j∨wc.heap.size≤j):=a1
      have T1:Hid (Tch K0 wc wb):=t1
      have HSL:Hid (∀ K w (i:Nat) x,StA w K sb [⟨[],st.toNat,lsI lo.toNat vs i⟩]→vs[i]?=some x→Calls Tryz.prog 86 #[.pointer (some ⟨sb,0,none⟩),.int .i64 (i:Int),.agg #[.bool false,.int .i64 x]] w fun e w'=>e=.returned (.int .i64 0)∧SkR K w w' sb [⟨[],st.toNat,lsI lo.toNat vs (i+1)⟩]):=fun K w i x s hx=>by
        have hi:=(List.getElem?_eq_some_iff.1 hx).1
        refine (setl_r s i (by rw [lsI_len (by omega) (by omega)];omega) false x).mono ?_
        rintro e w' ⟨rfl,hk⟩
        rw [lsI_set hx (by omega)] at hk
        exact ⟨rfl,hk⟩
      obtain ⟨nv,hnv⟩:∃ nv,vs.length=nv:=⟨_,rfl⟩
      have HNV:Hid (vs.length=nv):=hnv
      have r2w:W.cell? ⟨rb,2,none⟩=some (.pointer (some ⟨sb,0,none⟩)):=(cell_of_row W rb 2 _ _ _ HR.out).trans rfl
      have R2:Hid (wc.cell? ⟨rb,2,none⟩=some (.pointer (some ⟨sb,0,none⟩))):=r2
      rw [hnv] at hvl ⊢
      clear s1 a1 t1 m3 m4 r2 r2w hnv
      go_wp2_with fail
      go_loopw [34] (fun iv wr=>∃ (i:Nat),iv=.int .i64 (i:Int)∧i≤nv∧Hid (∃ K,StA wr K sb [⟨[],st.toNat,lsI lo.toNat vs i⟩]∧(∀ j,K j→K0 j∨wc.heap.size≤j)∧Tch K0 wc wr)) (fun iv _=>nv - (intOf iv).toNat)
      case atStart=>exact ⟨0,rfl,Nat.zero_le _,K1,S1.out,A1.out,T1.out⟩
      case round =>
        obtain ⟨i,rfl,hi,hst⟩:=hrel
        obtain ⟨K,s,a,t⟩:=hst.out
        clear hst S1 A1 T1
        have S:Hid (StA wr K sb [⟨[],st.toNat,lsI lo.toNat vs i⟩]):=s
        have A:Hid (∀ j,K j→K0 j∨wc.heap.size≤j):=a
        have T:Hid (Tch K0 wc wr):=t
        have zW:=HB.out.size
        have zr:=t.size
        have c2:wr.cell? ⟨rb,2,none⟩=some (.pointer (some ⟨sb,0,none⟩)):=tchCell t HN.out R2.out
        by_cases hlt:i<nv
        · obtain ⟨x,hx⟩:∃ x,vs[i]?=some x:=⟨_,List.getElem?_eq_getElem (by rw [HNV.out];exact hlt)⟩
          obtain ⟨gv,rfl,hgv,v0,v1⟩:=HV.out i x hx
          have w0:wr.cell? ⟨gv,i * 2,none⟩=some (.bool false):=tchCell t hgv ((HB.out.cell (p:=⟨gv,i * 2,none⟩) (World.block_lt_of_cell? W _ v0)).trans v0)
          have w1:wr.cell? ⟨gv,i * 2+1,none⟩=some (.int .i64 x):=tchCell t hgv ((HB.out.cell (p:=⟨gv,i * 2+1,none⟩) (World.block_lt_of_cell? W _ v1)).trans v1)
          have hiI:(i:Int)<(nv:Int):=by omega
          have rl2:rb<wr.heap.size:=by omega
          have rn2:¬ rb=wr.heap.size:=by omega
          clear s a t v0 v1
          go_upto_region 6 with fail
          go_region_with (first
            | (go_at_call 72;refine (HCk.out _).mono ?_;rintro e w5 ⟨rfl,hw⟩;obtain rfl:=hw.symm)
            | (go_at_call 86; refine (HSL.out K _ i x (S.out.below (by first | exact ((Below.refl _ _).alloc (Nat.le_refl _) _).drew | exact (Below.refl _ _).alloc (Nat.le_refl _) _)) hx).mono ?_; rintro e w4 ⟨rfl, hk⟩
               have hk2:=hk.pre (((Below.refl wr.heap.size wr).alloc (Nat.le_refl _) _).drew)
               obtain ⟨K',s',a',t'⟩:=hk2
               have N4:Hid (∃ K,StA w4 K sb [⟨[],st.toNat,lsI lo.toNat vs (i+1)⟩]∧(∀ j,K j→K0 j∨wc.heap.size≤j)∧Tch K0 wc w4):=⟨K',s',fun j hj=>(a' j hj).elim (A.out j) (fun y=>.inr (by omega)),T.out.trans t' (fun j hj x=>(A.out j x).elim id (fun y=>by omega))⟩
               clear hk s' a' t'))
          all_goals (go_wp2_with fail)
          all_goals
            go_roundw
            case rel=>exact ⟨i+1,by go_num,by omega,N4⟩
            case measure=>simp [intOf];omega
        · obtain rfl:nv=i:=by omega
          have hnn:¬ K0 n:=fun x=>by have:=K0l.out _ x;omega
          have hmw:wr.heap[n]?=_:=(t.blk n (Array.getElem?_eq_some_iff.1 HM6.out).1 hnn).trans HM6.out
          have hiw:wr.heap[W.heap.size]?=_:=(t.blk W.heap.size (Array.getElem?_eq_some_iff.1 HI.out).1 (fun x=>by have:=K0l.out _ x;omega)).trans HI.out
          have hrw:wr.heap[rb]?=some (.cells (run0 ge he sb fu) 88 (0,0)):=(t.blk rb (by omega) HN.out).trans ((HB.out.block rb rl).trans HR.out)
          have e3:wr.cell? ⟨rb,3,none⟩=some (.slice none 0 0):=(cell_of_row wr rb 3 _ _ _ hrw).trans rfl
          have ez:=fun k=>frozen_of_row wr rb k _ _ hrw
          have k0:wr.cell? ⟨n,0,none⟩=some (.string nm):=(cell_of_row wr n 0 _ _ _ hmw).trans rfl
          have k1:wr.cell? ⟨n,1,none⟩=some (.string ds):=(cell_of_row wr n 1 _ _ _ hmw).trans rfl
          have k2:wr.cell? ⟨n,2,none⟩=some (.int .i64 fl):=(cell_of_row wr n 2 _ _ _ hmw).trans rfl
          have k3:wr.cell? ⟨n,3,none⟩=some (.int .i64 lo):=(cell_of_row wr n 3 _ _ _ hmw).trans rfl
          have k4:wr.cell? ⟨n,4,none⟩=some (.int .i64 st):=(cell_of_row wr n 4 _ _ _ hmw).trans rfl
          have k5:wr.cell? ⟨n,5,none⟩=some (.slice (some ⟨g,0,none⟩) code.length c):=(cell_of_row wr n 5 _ _ _ hmw).trans rfl
          have j0:wr.cell? ⟨W.heap.size,0,none⟩=some (.int .i64 ci):=(cell_of_row wr _ 0 _ _ _ hiw).trans rfl
          have j1:wr.cell? ⟨W.heap.size,1,none⟩=some (.int .i64 cj):=(cell_of_row wr _ 1 _ _ _ hiw).trans rfl
          have rl2:rb<wr.heap.size:=by omega
          have rn2:¬ rb=wr.heap.size:=by omega
          have OC:Hid (wr.ownsRow W.heap.size 28 7 (.slice (some ⟨g,0,none⟩) code.length c) code.length (flatN code)):=own_keep HC.out (fun x hx=>by
            have:=HC.out.lt x hx
            exact t.blk x this.2 (fun y=>by have:=K0l.out _ y;omega))
          have gK:Hid (¬ K g):=fun x=>by
            have h1:=HC.out.lt g rfl
            rcases a g x with y|y
            · have:=K0l.out _ y;omega
            · omega
          have rK:Hid (¬ K rb):=fun x=>(a rb x).elim HN.out (fun y=>by omega)
          have HRW:Hid (wr.heap[rb]?=some (.cells (run0 ge he sb fu) 88 (0,0))):=hrw
          have FIN:Hid (∀ X w5 g5 cap5,Below wr.heap.size wr X→X.grownBy w5 none→w5.ownsRow 0 149 9 (.slice (some ⟨g5,0,none⟩) 1 cap5) 1 [.string nm,.string ds,.int .i64 fl,.int .i64 lo,.int .i64 st,.slice (some ⟨g,0,none⟩) code.length c,.int .i64 ci,.int .i64 cj,.int .i64 0]→wr.heap.size≤g5→_):=fun X w5 g5 cap5 hX hG h5 hg=>ru_fin (A:=⟨ge,he,sb,g5,cap5,.pointer none,.slice none 0 0,fu,nm,ds,fl,lo,st,g,c,code,ci,cj⟩) S.out HRW.out rfl rfl rl OC.out hX hG h5 hg rK.out gK.out
          obtain ⟨i0,hi0,hz0,hz1,hz2⟩:=info_parts Tryz.hinfoFm
          have HNW:Hid (vs.length=nv):=HNV.out
          clear hmw hiw hrw s a t
          go_upto_region 8 with fail
          go_region_law (refine step_append_lies _ rfl (.tmp 52) (.tmp 56) 83 rfl 0 149 i0 noFr 9 104 Tryz.underlying83 hi0 hz0 hz1 hz2 rfl (by decide) (.slice none 0 0) 0 [] (by first|(simp [Act.eval];done)|(simp [Act.eval,Act.put];done)) (World.ownsRow_nil _ _ _ _) ⟨wr.heap.size,0,none⟩ 1 1 [.string nm,.string ds,.int .i64 fl,.int .i64 lo,.int .i64 st,.slice (some ⟨g,0,none⟩) code.length c,.int .i64 ci,.int .i64 cj,.int .i64 0] (by first|(simp [Act.eval];done)|(simp [Act.eval,Act.put];done)) rfl (World.news_of_block (haA _ _ (by simp))) ?_ (by decide) ?_ ?_ (Nat.zero_le _) _ rfl ?_;(intro u hu;simp at hu;rcases hu with rfl|rfl|rfl|rfl|rfl|rfl|rfl|rfl|rfl <;> rfl);(unfold maxLen;omega);omega;intro g5 cap5 w5 hown hgrow hg5 hl5;have O5:Hid _:=hown;have G5:Hid _:=hgrow;have V5:Hid _:=hg5;have q3:w5.cell? ⟨rb,3,none⟩=some (.slice none 0 0):=grown_cell (by repeat (first|exact Below.refl _ _|refine Below.setCell ?_ (by simp;try omega) _|refine Below.alloc ?_ (by simp;try omega) _|refine Below.drew ?_)) hgrow (by simp [Value.ownBlock]) e3;have qz:w5.frozen? ⟨rb,3,none⟩=false:=grown_frz (by repeat (first|exact Below.refl _ _|refine Below.setCell ?_ (by simp;try omega) _|refine Below.alloc ?_ (by simp;try omega) _|refine Below.drew ?_)) hgrow rl2 (by simp [Value.ownBlock]) (ez 3);clear hown hgrow hg5)
          all_goals
            have z:=FIN.out _ w5 g5 cap5 (by first|exact ((Below.refl _ _).alloc (Nat.le_refl _) _).drew|exact (Below.refl _ _).alloc (Nat.le_refl _) _|exact ((Below.refl _ _).drew).alloc (Nat.le_refl _) _) G5.out O5.out (by rcases V5.out with h|h;exact absurd h (by simp [Value.ownBlock]);rw [h];simp)
            go_wp2_with fail
            refine bodyPost_end (results_none rfl _ _ _) rfl ⟨rfl,g5,cap5,g,c,K,by rw [HNW.out];exact z.1,?_,fun j hj=>(A.out j hj).imp id (fun y=>by omega),?_⟩
            · have:wr.heap.size≤g5:=by rcases V5.out with h|h;exact absurd h (by simp [Value.ownBlock]);rw [h];simp
              omega
            · exact ((((Tch.refl (fun j=>K0 j∨j=rb) W).bel HB.out).trans (T.out.mono (fun _ _ x=>Or.inl x)) (fun _ _ x=>x)).trans z.2 (fun _ _ x=>Or.inr x))
theorem made_yes {W:World} {ge lb:Nat} (h:W.cell? ⟨ge,0,none⟩=some (.pointer (some ⟨lb,0,none⟩))):Calls Tryz.prog 9 #[.pointer (some ⟨ge,0,none⟩)] W fun e w'=>e=.returned (.bool true)∧w'=W:=by
  go_enter Tryz.func9,Tryz.ntmps9
  go_wp2
  go_ret
  exact ⟨rfl,rfl⟩
theorem hnw_e {W:World} {lb b:Nat} (h:W.cell? ⟨lb,0,none⟩=some (.pointer (some ⟨b,0,none⟩))):Calls Tryz.prog 21 #[.pointer (some ⟨lb,0,none⟩)] W fun e w'=>e=.returned (.tuple #[.pointer (some ⟨W.heap.size,0,none⟩),.int .i64 0])∧Below W.heap.size W w':=by
  have HL:Hid (Calls Tryz.prog 42 #[.pointer (some ⟨lb,0,none⟩)] W fun e w'=>e=.returned (.pointer (some ⟨b,0,none⟩))∧w'=W):=lwld_e lb _ W h
  go_enter Tryz.func21,Tryz.ntmps21
  go_wp2_with (go_at_call 42;refine HL.out.mono ?_;rintro e w' ⟨rfl,rfl⟩)
  go_ret2
  exact ⟨rfl,(Below.refl _ _).alloc (Nat.le_refl _) _⟩
def fuI (n:Int):Int:=min (max n 0) 100000
set_option maxHeartbeats 1000000 in
theorem newRun_e {W:World} {ge lb b:Nat} (hg:W.cell? ⟨ge,0,none⟩=some (.pointer (some ⟨lb,0,none⟩))) (hl:W.cell? ⟨lb,0,none⟩=some (.pointer (some ⟨b,0,none⟩))) (fuel:Int):Calls Tryz.prog 11 #[.pointer (some ⟨ge,0,none⟩),.int .i64 fuel] W fun e w'=>∃ rb he sb,e=.returned (.tuple #[.pointer (some ⟨rb,0,none⟩),.int .i64 0])∧w'.heap[rb]?=some (.cells (run0 ge he sb (fuI fuel)) 88 (0,0))∧StA w' (fun j=>j=sb) sb []∧rb≠sb∧W.heap.size≤rb∧W.heap.size≤sb∧Below W.heap.size W w':=by
  have HH:Hid (∀ w,Below W.heap.size W w→Calls Tryz.prog 21 #[.pointer (some ⟨lb,0,none⟩)] w fun e w'=>e=.returned (.tuple #[.pointer (some ⟨w.heap.size,0,none⟩),.int .i64 0])∧Below w.heap.size w w'):=fun w hb=>hnw_e (kc hb hl)
  have HS:Hid (∀ w,Calls Tryz.prog 22 #[] w fun e w'=>e=.returned (.pointer (some ⟨w.heap.size,0,none⟩))∧SkAt true w' (fun j=>j=w.heap.size) w.heap.size (.slice none 0 0) []∧Below w.heap.size w w'):=fun w=>new_s w
  have hgl:ge<W.heap.size:=World.block_lt_of_cell? W _ hg
  clear hl
  go_enter Tryz.func11,Tryz.ntmps11
  go_wp2_with (first
    | (go_at_call 22;refine (HS.out _).mono ?_;rintro e w2 ⟨rfl,hs,hb⟩;have S2:Hid (StA w2 (fun j=>j=w1.heap.size) w1.heap.size []):=⟨[],_,hs,rfl⟩;have B2:Hid (Below W.heap.size W w2):=Below.step B1.out hb;have hz2:w1.heap.size<w2.heap.size:=hs.sz _ rfl;clear hs hb HS)
    | (go_at_call 21;refine (HH.out _ (by repeat (first|exact Below.refl _ _|refine Below.setCell ?_ (by simp;try omega) _|refine Below.alloc ?_ (by simp;try omega) _|refine Below.drew ?_))).mono ?_;rintro e w1 ⟨rfl,hb⟩;have B1:Hid (Below W.heap.size W w1):=Below.step (by repeat (first|exact Below.refl _ _|refine Below.setCell ?_ (by simp;try omega) _|refine Below.alloc ?_ (by simp;try omega) _|refine Below.drew ?_)) hb;clear hb HH))
  go_ret2
  refine ⟨w2.heap.size,W.heap.size,w1.heap.size,rfl,haA _ _ rfl,S2.out.below ((Below.refl _ _).alloc (Nat.le_refl _) _),by omega,B2.out.size,B1.out.size,B2.out.alloc B2.out.size _⟩
theorem i32_c {n:Int} (h:I32 n) (W:World):Calls Tryz.prog 20 #[.int .i64 n] W fun e w'=>e=.returned (.bool true)∧w'=W:=by
  obtain ⟨h1,h2⟩:=h
  have d1:decide (-2147483648≤n)=true:=decide_eq_true h1
  have d2:decide (n≤2147483647)=true:=decide_eq_true h2
  go_enter Tryz.func20,Tryz.ntmps20
  go_wp2
  go_ret
  exact ⟨by simp,rfl⟩
set_option maxHeartbeats 4000000 in
theorem chkMain_e {W:World} (y:Bool) (q1 q2 q3:ByteArray) (vs:List Int) (va:Option Addr) (vc:Nat) (nv:Nat) (hnb:nv≤1000) (hnv:vs.length=nv) (hv:∀ k x,vs[k]?=some x→I32 x∧∃ g,va=some ⟨g,0,none⟩∧W.cell? ⟨g,k,none⟩=some (.int .i64 x))
    (HR:Hid (∀ w,Calls Tryz.prog 17 #[.agg #[.bool y,.string q1,.string q2,.string q3]] w fun e w'=>e=.returned (.int .i64 0)∧Below w.heap.size w w'))
    (HP:Hid (∀ w,Calls Tryz.prog 18 #[.string q3] w fun e w'=>(∃ a c vo x s,e=.returned (.tuple #[.agg #[.slice a nv c,.bool vo,.int .i64 x,.string s],.int .i64 0])∧∀ j,j<nv→∃ g,a=some ⟨g,0,none⟩∧w'.cell? ⟨g,j * 2,none⟩=some (.int .i64 0)∧w'.cell? ⟨g,j * 2+1,none⟩=some (.string ⟨#[]⟩))∧Below w.heap.size w w')) :
    Calls Tryz.prog 10 #[.agg #[.bool y,.string q1,.string q2,.string q3],.slice va nv vc] W fun e w'=>e=.returned (.int .i64 0)∧Below W.heap.size W w':=by
  have HV:Hid (∀ k x,vs[k]?=some x→I32 x∧∃ g,va=some ⟨g,0,none⟩∧W.cell? ⟨g,k,none⟩=some (.int .i64 x)):=hv
  have HNV:Hid (vs.length=nv):=hnv
  have HI:Hid (∀ w,Calls Tryz.prog 19 #[] w fun e w'=>e=.returned (.agg #[.int .i64 0,.string ⟨#[]⟩])∧Below w.heap.size w w'):=fun w=>ity_c w
  clear hv hnv
  go_enter Tryz.func10,Tryz.ntmps10
  go_wp2_with (first
    | (go_at_call 18;refine (HP.out _).mono ?_;rintro e w2 ⟨⟨a,c,vo,x,s,rfl,hd⟩,hb⟩;have HD:Hid (∀ j,j<nv→∃ g,a=some ⟨g,0,none⟩∧w2.cell? ⟨g,j * 2,none⟩=some (.int .i64 0)∧w2.cell? ⟨g,j * 2+1,none⟩=some (.string ⟨#[]⟩)):=hd;have B2:Hid (Below W.heap.size W w2):=Below.step B1.out hb;clear hd hb HP)
    | (go_at_call 17;refine (HR.out _).mono ?_;rintro e w1 ⟨rfl,hb⟩;have B1:Hid (Below W.heap.size W w1):=Below.step (by repeat (first|exact Below.refl _ _|refine Below.setCell ?_ (by simp;try omega) _|refine Below.alloc ?_ (by simp;try omega) _|refine Below.drew ?_)) hb;have M1:=four_kc (n:=W.heap.size) hb (haA W _ rfl);obtain ⟨mB,m0,m1,m2,m3,mf,mL,mN⟩:=M1;clear hb HR))
  refine wp_name (fun U hU=>?_)
  have BU:Hid (Below W.heap.size W U):=by rw [hU];exact B2.out.alloc B2.out.size _
  have hs0:U.heap[w2.heap.size]?=some (.cells #[.slice a nv c,.bool vo,.int .i64 x,.string s] 73 (0,0)):=by rw [hU];exact haA _ _ rfl
  have u0:Hid (U.cell? ⟨w2.heap.size,0,none⟩=some (.slice a nv c)):=(cell_of_row U _ 0 _ _ _ hs0).trans rfl
  have b2U:Hid (Below w2.heap.size w2 U):=by rw [hU];exact (Below.refl _ _).alloc (Nat.le_refl _) _
  have zU:U.heap.size=w2.heap.size+1:=by rw [hU];simp
  clear hU hs0 mB m0 m1 m2 m3 mf mL mN B1 B2
  go_loopw [26] (fun iv wr=>∃ (i:Nat),iv=.int .i64 (i:Int)∧i≤nv∧Hid (Below U.heap.size U wr)) (fun iv _=>nv - (intOf iv).toNat)
  case atStart=>exact ⟨0,rfl,Nat.zero_le _,Below.refl _ _⟩
  case round =>
    obtain ⟨i,rfl,hi,hB⟩:=hrel
    by_cases hlt:i<nv
    · obtain ⟨z,hz⟩:∃ z,vs[i]?=some z:=⟨_,List.getElem?_eq_getElem (by rw [HNV.out];exact hlt)⟩
      obtain ⟨h32,gv,rfl,v0⟩:=HV.out i z hz
      obtain ⟨gd,rfl,d0,d1⟩:=HD.out i hlt
      have H32:Hid (∀ w,Calls Tryz.prog 20 #[.int .i64 z] w fun e w'=>e=.returned (.bool true)∧w'=w):=fun w=>i32_c h32 w
      have gvl:gv<W.heap.size:=World.block_lt_of_cell? W _ v0
      have gdl:gd<w2.heap.size:=World.block_lt_of_cell? w2 _ d0
      have hiI:(i:Int)<(nv:Int):=by omega
      have x0:wr.cell? ⟨gv,i,none⟩=some (.int .i64 z):=((BU.out.trans (hB.out.mono BU.out.size)).cell (p:=⟨gv,i,none⟩) gvl).trans v0
      have y0:=((b2U.out.trans (hB.out.mono b2U.out.size)).cell (p:=⟨gd,i * 2,none⟩) gdl).trans d0
      have y1:=((b2U.out.trans (hB.out.mono b2U.out.size)).cell (p:=⟨gd,i * 2+1,none⟩) gdl).trans d1
      have z0:=(hB.out.cell (p:=⟨w2.heap.size,0,none⟩) (by show w2.heap.size<U.heap.size;omega)).trans u0.out
      have l1:gd<wr.heap.size:=World.block_lt_of_cell? wr _ y0
      have l2:w2.heap.size<wr.heap.size:=World.block_lt_of_cell? wr _ z0
      clear h32 v0 d0 d1 hz
      go_upto_region 9 with fail
      obtain ⟨σ,V,hne,V1,V2⟩:=class_of' (fun w'=>Below wr.heap.size wr w') ⟨_,Below.refl _ _⟩
      have e1:=fun q=>((V1.out q).cell (p:=⟨gd,i * 2,none⟩) l1).trans y0
      have e2:=fun q=>((V1.out q).cell (p:=⟨gd,i * 2+1,none⟩) l1).trans y1
      have e3:=fun q=>((V1.out q).cell (p:=⟨w2.heap.size,0,none⟩) l2).trans z0
      have HVI:Hid (∀ q,Calls Tryz.prog 19 #[] (V q) fun e w'=>e=.returned (.agg #[.int .i64 0,.string ⟨#[]⟩])∧∃ q',w'=V q'):=fun q=>(HI.out _).mono fun e w' ⟨h1,h2⟩=>⟨h1,V2.out _ (Below.step (V1.out q) h2)⟩
      have HV3:Hid (∀ q,Calls Tryz.prog 20 #[.int .i64 z] (V q) fun e w'=>e=.returned (.bool true)∧∃ q',w'=V q'):=fun q=>(H32.out _).mono fun e w' ⟨h1,h2⟩=>⟨h1,q,h2⟩
      refine wp_region_class (C:=fun w'=>∃ q,w'=V q) (by kernel_rfl) (by kernel_rfl) (V2.out _ (Below.refl _ _).drew) ?_
      repeat (go_big_quiet_step (first|(go_at_call 19;exact HVI.out _)|(go_at_call 20;exact HV3.out _)))
      refine wpQuiet_nil ?_
      intro w9 hw9
      obtain ⟨s9,rfl⟩:=hw9
      have B9:Hid (Below U.heap.size U (V s9)):=Below.step hB.out (V1.out s9)
      clear e1 e2 e3 HVI HV3 V2 x0 y0 y1 z0
      go_wp2_with fail
      go_roundw
      case rel=>exact ⟨i+1,by go_num,by omega,B9⟩
      case measure=>simp [intOf];omega
    · obtain rfl:i=nv:=by omega
      go_wp2
      go_ret
      exact ⟨rfl,Below.step BU.out hB.out⟩
set_option maxHeartbeats 2000000 in
theorem run_e {W:World} {ge lb b:Nat} (hg:W.cell? ⟨ge,0,none⟩=some (.pointer (some ⟨lb,0,none⟩))) (hl:W.cell? ⟨lb,0,none⟩=some (.pointer (some ⟨b,0,none⟩))) (q1 q2 q3:ByteArray) (va:Option Addr) (nv vc:Nat) (fuel:Int) (th:Int) (hs:Bool) (v:Int) (sp:Nat)
    (HCk:Hid (∀ w,Below W.heap.size W w→Calls Tryz.prog 10 #[.agg #[.bool false,.string q1,.string q2,.string q3],.slice va nv vc] w fun e w'=>e=.returned (.int .i64 0)∧Below w.heap.size w w'))
    (HWh:Hid (∀ w rb he sb,WyAt w rb ge lb b→w.heap[rb]?=some (.cells (run0 ge he sb (fuI fuel)) 88 (0,0))→StA w (fun j=>j=sb) sb []→rb≠sb→Below W.heap.size W w→Calls Tryz.prog 12 #[.pointer (some ⟨rb,0,none⟩),.agg #[.bool false,.string q1,.string q2,.string q3],.slice va nv vc] w fun e w'=>e=.returned (resV th hs v sp)∧Tch (fun j=>j=sb∨j=rb) w w')) :
    Calls Tryz.prog 6 #[.pointer (some ⟨ge,0,none⟩),.agg #[.bool false,.string q1,.string q2,.string q3],.slice va nv vc,.int .i64 fuel] W fun e w'=>e=.returned (.tuple #[resV th hs v sp,.int .i64 0])∧Below W.heap.size W w':=by
  have HMd:Hid (∀ w,Below W.heap.size W w→Calls Tryz.prog 9 #[.pointer (some ⟨ge,0,none⟩)] w fun e w'=>e=.returned (.bool true)∧w'=w):=fun w hb=>made_yes (kc hb hg)
  have HNr:Hid (∀ w,Below W.heap.size W w→Calls Tryz.prog 11 #[.pointer (some ⟨ge,0,none⟩),.int .i64 fuel] w fun e w'=>∃ rb he sb,e=.returned (.tuple #[.pointer (some ⟨rb,0,none⟩),.int .i64 0])∧w'.heap[rb]?=some (.cells (run0 ge he sb (fuI fuel)) 88 (0,0))∧StA w' (fun j=>j=sb) sb []∧rb≠sb∧w.heap.size≤rb∧w.heap.size≤sb∧Below w.heap.size w w'):=fun w hb=>newRun_e (kc hb hg) (kc hb hl) fuel
  have HG:Hid (W.cell? ⟨ge,0,none⟩=some (.pointer (some ⟨lb,0,none⟩))∧W.cell? ⟨lb,0,none⟩=some (.pointer (some ⟨b,0,none⟩))):=⟨hg,hl⟩
  clear hg hl
  go_enter Tryz.func6,Tryz.ntmps6
  go_wp2_with (first
    | (go_at_call 12; refine (HWh.out _ rb he sb ⟨(cell_of_row w2 rb 0 _ _ _ RR.out).trans rfl, kc B2.out HG.out.1, kc B2.out HG.out.2⟩ RR.out SR.out NR.out.1 B2.out).mono ?_; rintro e w3 ⟨he, ht⟩; rw [resV] at he; subst he
       have hz3:=ht.size
       have B3:Hid (Below W.heap.size W w3):=B2.out.trans (ht.below B2.out.size (fun j hj=>by have:=NR.out.2;rcases hj with rfl|rfl <;> omega))
       have hq3:w3.heap[W.heap.size+1]?=_:=(ht.blk (W.heap.size+1) pL (fun hj=>by have:=NR.out.2;rcases hj with h|h <;> omega)).trans pB.out
       have p3:Hid (w3.heap[W.heap.size+1]?=some (.cells #[.string ⟨#[]⟩,.int .i64 0,.bool false,.bool false,.int .i64 0,.int .i64 0] 34 (0,0))):=hq3
       have o0:w3.cell? ⟨W.heap.size+1,0,none⟩=some (.string ⟨#[]⟩):=(cell_of_row w3 _ 0 _ _ _ hq3).trans rfl
       have o1:w3.cell? ⟨W.heap.size+1,1,none⟩=some (.int .i64 0):=(cell_of_row w3 _ 1 _ _ _ hq3).trans rfl
       have o2:w3.cell? ⟨W.heap.size+1,2,none⟩=some (.bool false):=(cell_of_row w3 _ 2 _ _ _ hq3).trans rfl
       have o3:w3.cell? ⟨W.heap.size+1,3,none⟩=some (.bool false):=(cell_of_row w3 _ 3 _ _ _ hq3).trans rfl
       have o4:w3.cell? ⟨W.heap.size+1,4,none⟩=some (.int .i64 0):=(cell_of_row w3 _ 4 _ _ _ hq3).trans rfl
       have o5:w3.cell? ⟨W.heap.size+1,5,none⟩=some (.int .i64 0):=(cell_of_row w3 _ 5 _ _ _ hq3).trans rfl
       have oz:=fun k=>frozen_of_row w3 (W.heap.size+1) k _ _ hq3
       clear ht hq3 HWh)
    | (go_at_call 11; refine (HNr.out _ B1.out).mono ?_; rintro e w2 ⟨rb, he, sb, rfl, hrr, hst, hne, h1, h2, hb⟩
       have RR:Hid (w2.heap[rb]?=some (.cells (run0 ge he sb (fuI fuel)) 88 (0,0))):=hrr
       have SR:Hid (StA w2 (fun j=>j=sb) sb []):=hst
       have hz1:=B1.out.size
       have NR:Hid (rb≠sb∧W.heap.size+1<rb∧W.heap.size+1<sb):=⟨hne,by omega,by omega⟩
       have B2:Hid (Below W.heap.size W w2):=Below.step B1.out hb
       have M2:=four_kc (n:=W.heap.size) hb mB
       obtain ⟨mB2,m0,m1,m2,m3,mf,mL,mN⟩:=M2
       have P2:=six_kc (n:=W.heap.size+1) hb pB.out
       obtain ⟨pB,p0,p1,p2,p3,p4,p5,pf,pL,pN⟩:=P2
       clear hrr hst hne h1 h2 hb HNr B1)
    | (go_at_call 10; refine (HCk.out _ (by repeat (first | exact Below.refl _ _ | refine Below.setCell ?_ (by simp; try omega) _ | refine Below.alloc ?_ (by simp; try omega) _ | refine Below.drew ?_))).mono ?_; rintro e w1 ⟨rfl, hb⟩
       have B1:Hid (Below W.heap.size W w1):=Below.step (by repeat (first|exact Below.refl _ _|refine Below.setCell ?_ (by simp;try omega) _|refine Below.alloc ?_ (by simp;try omega) _|refine Below.drew ?_)) hb
       have M1:=four_kc (n:=W.heap.size) hb (hkA (haA W _ rfl))
       obtain ⟨mB,m0,m1,m2,m3,mf,mL,mN⟩:=M1
       have P1:=six_kc (n:=W.heap.size+1) hb (haA (W.alloc _) _ (szA _ _))
       obtain ⟨pB,p0,p1,p2,p3,p4,p5,pf,pL,pN⟩:=P1
       clear hb HCk)
    | (go_at_call 9;refine (HMd.out _ (by repeat (first|exact Below.refl _ _|refine Below.setCell ?_ (by simp;try omega) _|refine Below.alloc ?_ (by simp;try omega) _|refine Below.drew ?_))).mono ?_;rintro e w0 ⟨rfl,hw⟩;obtain rfl:=hw.symm))
  refine bodyPost_ret (v:=.tuple #[resV th hs v sp,.int .i64 0]) (by simp [results,Tryz.results6,go_sem,resV, *]) rfl ⟨rfl,?_⟩
  exact ((((((B3.out.setCell (by show W.heap.size≤W.heap.size+1;omega) _).setCell (by show W.heap.size≤W.heap.size+1;omega) _).setCell (by show W.heap.size≤W.heap.size+1;omega) _).setCell (by show W.heap.size≤W.heap.size+1;omega) _).setCell (by show W.heap.size≤W.heap.size+1;omega) _).setCell (by show W.heap.size≤W.heap.size+1;omega) _)
set_option maxHeartbeats 4000000 in
theorem catch_thr (n:Nat) (x E:Int) (older:List PanicEntry) (w:World) (hc:w.cell? ⟨n,0,none⟩=some (.int .i64 x)) (hz:w.frozen? ⟨n,0,none⟩=false):CallsD Tryz.prog 43 #[.pointer (some ⟨n,0,none⟩)] (.panicking ({ v:=.iface 136 (.int .i64 E),recovered:=false }::older)) w fun e u' w'=>e=.returned (.tuple #[])∧u'=.panicking ({ v:=.iface 136 (.int .i64 E),recovered:=true }::older)∧w'=w.setCell ⟨n,0,none⟩ (.int .i64 E):=by
  have hnil:∀ w:World,(binOp BinOp.eql 20 (.iface 136 (.int .i64 E)) .nilIface).run Tryz.prog w=.ok (.bool false) w:=fun _=>rfl
  have hta:∀ w:World,(Instr.typeAssert (.iface 136 (.int .i64 E)) 20 136 true).run Tryz.prog w=.ok (.tuple #[.int .i64 E,.bool true]) w:=fun _=>by kernel_rfl
  refine callsD_of_wpS Tryz.func43 rfl fun c₀ cs hu=>?_
  apply wpS_seq
  apply wpS_region
  simp [wpOpsS,go_sem,recoverD,hu,Tryz.ntmps43,Exit.thenS]
  refine wpS_of_wp ?_
  go_upto_region 5 with fail
  have hfr:(#[Value.pointer (some ⟨n,0,none⟩)]++((Array.replicate 9 undef).setIfInBounds 3 (Value.iface 136 (Value.int IntKind.i64 E))).setIfInBounds 4 (Value.bool false))=#[Value.pointer (some ⟨n,0,none⟩),undef,undef,undef,Value.iface 136 (Value.int IntKind.i64 E),Value.bool false,undef,undef,undef,undef]:=rfl
  rw [hfr]
  go_wp2
  cases c₀
  simp_all [bodyPostS,results,Tryz.results43]
theorem caught_thr {W:World} {E:Int} {v1 v2 v3:Value} {P:World→World→Prop} (HW:Hid (∀ w,Below W.heap.size W w→Calls Tryz.prog 24 #[v1,v2,v3] w fun e w'=>e=thr E∧P w w')) (hP:∀ w w',W.heap.size<w.heap.size→P w w'→w'.heap[W.heap.size]?=w.heap[W.heap.size]?):Calls Tryz.prog 23 #[.func (.func 24) #[] #[v1,v2,v3]] W fun e w'=>e=.returned (.int .i64 E)∧∃ w1,P (W.alloc (.cells #[.int .i64 0] 30)) w1∧w'=w1.setCell ⟨W.heap.size,0,none⟩ (.int .i64 E):=by
  have hmf:∀ (fn:Fn) (first cap:Array Value) (w:World),(Instr.makeFunc fn first cap).run Tryz.prog w=.ok (.func fn first cap) w:=fun _ _ _ _=>rfl
  go_enter_defers Tryz.func23,Tryz.ntmps23
  go_wp2_with (go_at_call 24;refine (HW.out _ (by repeat (first|exact Below.refl _ _|refine Below.setCell ?_ (by simp;try omega) _|refine Below.alloc ?_ (by simp;try omega) _|refine Below.drew ?_))).mono ?_;rintro e w1 ⟨he,hp⟩;rw [thr] at he;subst he;have e1:=hP _ _ (by simp) hp;have q1:w1.heap[W.heap.size]?=some (.cells #[.int .i64 0] 30 (0,0)):=e1.trans (halloc1 _ _);obtain ⟨z0,zf,zL⟩:=r1c q1)
  refine leaves_cons (f:=43) (args:=#[.pointer (some ⟨W.heap.size,0,none⟩)]) (by simp) (by simp [go_sem]) ?_
  refine (catch_thr W.heap.size 0 E [] _ z0 (zf 0)).mono ?_
  rintro e u' w'' ⟨rfl,rfl,rfl⟩
  have zs:(w1.setCell ⟨W.heap.size,0,none⟩ (.int .i64 E)).cell? ⟨W.heap.size,0,none⟩=some (.int .i64 E):=(cell_of_row _ _ 0 _ _ _ (Go.Joins.block_setCell q1 _)).trans rfl
  simp [Leaves,settle,results,Tryz.results23,go_sem]
  simp only [zs]
  exact ⟨_,rfl,rfl,w1,hp,rfl⟩
end Go.Proofs.YtlohdfpinmdljaaGreatDoor.Sk
