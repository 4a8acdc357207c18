import Derived.Test.YtdpodamnfpehkaaGreatDoorEnB
set_option maxRecDepth 100000
namespace Go.Proofs.YtdpodamnfpehkaaGreatDoor.Sk
open Go.RowKit Go.Maps
theorem wrp_c (n:Int) (W:World):Calls Tryz.prog 166 #[.int .i64 n] W fun e w'=>e=.returned (.int .i64 (wrap32 n))∧w'=W:=by
  have h1:∀ w:World,(convert 3 21 (.int .i64 n)).run Tryz.prog w=.ok (.int .i32 (wrap32 n)) w:=fun w=>by
    simp [convert,run_underlying Tryz.underlying3,run_underlying Tryz.underlying21,go_sem,IntKind.wrap_i32]
    unfold wrap32;rfl
  have h2:∀ w:World,(convert 21 3 (.int .i32 (wrap32 n))).run Tryz.prog w=.ok (.int .i64 (wrap32 n)) w:=fun w=>by
    simp [convert,run_underlying Tryz.underlying3,run_underlying Tryz.underlying21,go_sem]
    rw [IntKind.wrap_i64];unfold wrap32;omega
  go_enter Tryz.func166,Tryz.ntmps166
  go_wp2
  go_ret
  exact ⟨rfl,rfl⟩
def cmpI (op a b:Int):Int:=if op=7 then a+b else if op=8 then a - b else if op=9 then a * b else a.tdiv b
theorem cmp_7 (a b:Int) (W:World) (h:-9223372036854775808≤a+b∧a+b≤9223372036854775807):Calls Tryz.prog 167 #[.int .i64 7,.int .i64 a,.int .i64 b] W fun e w'=>e=.returned (.int .i64 (cmpI 7 a b))∧w'=W:=by
  have e:=IntWalk.wrap64_in _ h
  go_enter Tryz.func167,Tryz.ntmps167
  go_wp2
  go_ret
  exact ⟨by simp [cmpI],rfl⟩
theorem cmp_8 (a b:Int) (W:World) (h:-9223372036854775808≤a - b∧a - b≤9223372036854775807):Calls Tryz.prog 167 #[.int .i64 8,.int .i64 a,.int .i64 b] W fun e w'=>e=.returned (.int .i64 (cmpI 8 a b))∧w'=W:=by
  have e:=IntWalk.wrap64_in _ h
  go_enter Tryz.func167,Tryz.ntmps167
  go_wp2
  go_ret
  exact ⟨by simp [cmpI],rfl⟩
theorem cmp_9 (a b:Int) (W:World) (h:-9223372036854775808≤a * b∧a * b≤9223372036854775807):Calls Tryz.prog 167 #[.int .i64 9,.int .i64 a,.int .i64 b] W fun e w'=>e=.returned (.int .i64 (cmpI 9 a b))∧w'=W:=by
  have e:=IntWalk.wrap64_in _ h
  go_enter Tryz.func167,Tryz.ntmps167
  go_wp2
  go_ret
  exact ⟨by simp [cmpI],rfl⟩
theorem cmp_10 (a b:Int) (hb:¬ b=0) (W:World) (h:-9223372036854775808≤a.tdiv b∧a.tdiv b≤9223372036854775807):Calls Tryz.prog 167 #[.int .i64 10,.int .i64 a,.int .i64 b] W fun e w'=>e=.returned (.int .i64 (cmpI 10 a b))∧w'=W:=by
  have e:=IntWalk.wrap64_in _ h
  go_enter Tryz.func167,Tryz.ntmps167
  go_wp2
  go_ret
  exact ⟨by simp [cmpI],rfl⟩
def I32 (a:Int):Prop:=-2147483648≤a∧a≤2147483647
theorem mul_in {a b:Int} (ha:I32 a) (hb:I32 b):-9223372036854775808≤a * b∧a * b≤9223372036854775807:=by
  obtain ⟨a1,a2⟩:=ha
  obtain ⟨b1,b2⟩:=hb
  have h:(a * b).natAbs≤2147483648 * 2147483648:=by
    rw [Int.natAbs_mul]
    exact Nat.mul_le_mul (by omega) (by omega)
  omega
theorem div_in {a b:Int} (ha:I32 a):-9223372036854775808≤a.tdiv b∧a.tdiv b≤9223372036854775807:=by
  obtain ⟨a1,a2⟩:=ha
  have h:(a.tdiv b).natAbs≤a.natAbs:=by
    rw [Int.natAbs_tdiv]
    exact Nat.div_le_self _ _
  omega
theorem cmp_c (op a b:Int) (ho:op=7∨op=8∨op=9∨op=10∧¬ b=0) (ha:I32 a) (hb:I32 b) (W:World):Calls Tryz.prog 167 #[.int .i64 op,.int .i64 a,.int .i64 b] W fun e w'=>e=.returned (.int .i64 (cmpI op a b))∧w'=W:=by
  obtain ⟨a1,a2⟩:=ha
  obtain ⟨b1,b2⟩:=hb
  rcases ho with rfl|rfl|rfl|⟨rfl,h0⟩
  · exact cmp_7 a b W (by omega)
  · exact cmp_8 a b W (by omega)
  · exact cmp_9 a b W (mul_in ⟨a1,a2⟩ ⟨b1,b2⟩)
  · exact cmp_10 a b h0 W (div_in ⟨a1,a2⟩)
theorem kc {V w:World} (hb:Below V.heap.size V w) {n o:Nat} {v:Value} (h:V.cell? ⟨n,o,none⟩=some v):w.cell? ⟨n,o,none⟩=some v:=(hb.cell (p:=⟨n,o,none⟩) (World.block_lt_of_cell? V _ h)).trans h
theorem k2d {V w:World} {n:Nat} {t:TypeId} {a0 a1:Value} (hb:Below V.heap.size V w) (h:V.heap[n]?=some (.cells #[a0,a1] t (0,0))):Hid (w.heap[n]?=some (.cells #[a0,a1] t (0,0)))∧w.cell? ⟨n,0,none⟩=some a0∧w.cell? ⟨n,1,none⟩=some a1∧(∀ k,w.frozen? ⟨n,k,none⟩=false)∧n<w.heap.size∧¬ n=w.heap.size:=k2c hb (Array.getElem?_eq_some_iff.1 h).1 h
theorem tchCell {K:Nat→Prop} {W w':World} (h:Tch K W w') {n o:Nat} {v:Value} (hn:¬ K n) (hc:W.cell? ⟨n,o,none⟩=some v):w'.cell? ⟨n,o,none⟩=some v:=by
  have:=h.blk n (World.block_lt_of_cell? W _ hc) hn
  rw [← hc];simp only [World.cell?,this]
theorem comp_e {W:World} {K:Nat→Prop} {sb rb:Nat} {p:PF} (h:StA W K sb [p]) (hn:¬ K rb) (hc:W.cell? ⟨rb,2,none⟩=some (.pointer (some ⟨sb,0,none⟩))) (ys:List (Bool×Int)) (op a b:Int) (hx:p.xs=ys++[(false,a),(false,b)]) (hr:ys.length<p.rm) (ho:op=7∨op=8∨op=9∨op=10∧¬ b=0) (ha:I32 a) (hb:I32 b):Calls Tryz.prog 101 #[.pointer (some ⟨rb,0,none⟩),.int .i64 op] W fun e w'=>e=.returned (.tuple #[])∧SkR K W w' sb [{ p with xs:=ys++[(false,wrap32 (cmpI op a b))] }]:=by
  have hrb:Hid (rb<W.heap.size):=World.block_lt_of_cell? W _ hc
  have HA:Hid (Calls Tryz.prog 165 #[.pointer (some ⟨rb,0,none⟩)] W fun e w'=>e=.returned (.int .i64 b)∧SkR K W w' sb [{ p with xs:=ys++[(false,a)] }]):=takeInt_e h hc (ys++[(false,a)]) b (by rw [hx];simp)
  have HB:Hid (∀ K1 w,StA w K1 sb [{ p with xs:=ys++[(false,a)] }]→w.cell? ⟨rb,2,none⟩=some (.pointer (some ⟨sb,0,none⟩))→Calls Tryz.prog 165 #[.pointer (some ⟨rb,0,none⟩)] w fun e w'=>e=.returned (.int .i64 a)∧SkR K1 w w' sb [{ p with xs:=ys }]):=fun K1 w s c=>takeInt_e s c ys a rfl
  have HP:Hid (∀ K1 w n,StA w K1 sb [{ p with xs:=ys }]→w.cell? ⟨rb,2,none⟩=some (.pointer (some ⟨sb,0,none⟩))→Calls Tryz.prog 97 #[.pointer (some ⟨rb,0,none⟩),.int .i64 n] w fun e w'=>e=.returned (.tuple #[])∧SkR K1 w w' sb [{ p with xs:=ys++[(false,n)] }]):=fun K1 w n s c=>putInt_e s c hr n
  have HC:Hid (∀ w,Calls Tryz.prog 167 #[.int .i64 op,.int .i64 a,.int .i64 b] w fun e w'=>e=.returned (.int .i64 (cmpI op a b))∧w'=w):=fun w=>cmp_c op a b ho ha hb w
  have HW:Hid (∀ n w,Calls Tryz.prog 166 #[.int .i64 n] w fun e w'=>e=.returned (.int .i64 (wrap32 n))∧w'=w):=fun n w=>wrp_c n w
  have HT:Hid (∀ w,Calls Tryz.prog 57 #[.bool false,.int .i64 29] w fun e w'=>e=.returned (.tuple #[])∧w'=w):=fun w=>tif_no 29 w
  have C0:Hid (W.cell? ⟨rb,2,none⟩=some (.pointer (some ⟨sb,0,none⟩))):=hc
  have N0:Hid (¬ K rb):=hn
  clear h hc hx hr ha hb hn
  have hz:op=10→(b == 0)=false:=fun e=>by
    rcases ho with rfl|rfl|rfl|⟨rfl,h0⟩
    · cases e
    · cases e
    · cases e
    · simpa using h0
  have ho2:op=7∨op=8∨op=9∨op=10:=by
    rcases ho with h|h|h|⟨h,_⟩ <;> simp [h]
  clear ho
  rcases ho2 with rfl|rfl|rfl|rfl
  all_goals first|(replace hz:=hz rfl)|clear hz
  all_goals
    go_enter Tryz.func101,Tryz.ntmps101
    go_wp2_with (first
      | (go_at_call 97;refine (HP.out _ _ _ S2.out C2.out).mono ?_;rintro e w3 ⟨rfl,hk⟩;have R3:=SkR.trans A2.out T2.out hk;clear hk HP)
      | (go_at_call 166;refine (HW.out _ _).mono ?_;rintro e w9 ⟨rfl,hw⟩;obtain rfl:=hw.symm)
      | (go_at_call 167;refine (HC.out _).mono ?_;rintro e w9 ⟨rfl,hw⟩;obtain rfl:=hw.symm)
      | (go_at_call 57;refine (HT.out _).mono ?_;rintro e w9 ⟨rfl,hw⟩;obtain rfl:=hw.symm)
      | (go_at_call 165; refine (HB.out _ _ S1.out C1.out).mono ?_; rintro e w2 ⟨rfl, hk⟩
         obtain ⟨K2,s2,a2,t2⟩:=SkR.trans A1.out T1.out hk
         have S2:Hid (StA w2 K2 sb [{ p with xs:=ys }]):=s2
         have A2:Hid (∀ j,K2 j→K j∨W.heap.size≤j):=a2
         have T2:Hid (Tch K W w2):=t2
         have C2:Hid (w2.cell? ⟨rb,2,none⟩=some (.pointer (some ⟨sb,0,none⟩))):=tchCell t2 N0.out C0.out
         clear hk s2 a2 t2 HB S1 A1 T1 C1)
      | (go_at_call 165; refine (HA.out).mono ?_; rintro e w1 ⟨rfl, hk⟩
         obtain ⟨K1,s1,a1,t1⟩:=hk
         have S1:Hid (StA w1 K1 sb [{ p with xs:=ys++[(false,a)] }]):=s1
         have A1:Hid (∀ j,K1 j→K j∨W.heap.size≤j):=a1
         have T1:Hid (Tch K W w1):=t1
         have C1:Hid (w1.cell? ⟨rb,2,none⟩=some (.pointer (some ⟨sb,0,none⟩))):=tchCell t1 N0.out C0.out
         clear s1 a1 t1 HA))
    exact bodyPost_end (results_none rfl _ _ _) rfl ⟨rfl,R3⟩
theorem szA (w:World) (o:Obj):(w.alloc o).heap.size=w.heap.size+1:=by simp
theorem callLoc (vs:Array Value) (w:World):(callFunc 163 vs).run Tryz.prog w=.ok (.enter 163 vs) w:=by simp [go_sem]
theorem callOTv (vs:Array Value) (w:World):(callFunc 162 vs).run Tryz.prog w=.ok (.enter 162 vs) w:=by simp [go_sem]
set_option maxHeartbeats 2000000 in
theorem load_e {W:World} {K:Nat→Prop} {sb rb:Nat} {p:PF} (h:StA W K sb [p]) (hc:W.cell? ⟨rb,2,none⟩=some (.pointer (some ⟨sb,0,none⟩))) (n:Nat) (v:Int) (hl:p.ls[n]?=some (false,v)) (hr:p.xs.length<p.rm) (t:ByteArray) (y:Bool) (c m d:ByteArray):Calls Tryz.prog 99 #[.pointer (some ⟨rb,0,none⟩),.agg #[.int .i64 2,.int .i64 (n:Int),.string t,.bool y,.string c,.string m,.string d]] W fun e w'=>e=.returned (.tuple #[])∧SkR K W w' sb [{ p with xs:=p.xs++[(false,v)] }]:=by
  have hrb:rb<W.heap.size:=World.block_lt_of_cell? W _ hc
  have hrn:¬ rb=W.heap.size:=by omega
  have HL:Hid (∀ w,Below W.heap.size W w→Calls Tryz.prog 163 #[.pointer (some ⟨sb,0,none⟩),.int .i64 (n:Int)] w fun e w'=>e=.returned (.tuple #[.agg #[.bool false,.int .i64 v],.int .i64 0])∧Below w.heap.size w w'):=fun w hb=>by
    obtain ⟨fs,fv,h1,h2⟩:=h.below hb
    cases fs with
    | nil=>simp at h2
    | cons f r =>
      have e:f.ls=p.ls:=by simp at h2;rw [← h2.1];rfl
      exact local_on h1 n (false,v) (by rw [e];exact hl)
  have HC:Hid (∀ w:World,Calls Tryz.prog 162 #[.agg #[.bool false,.int .i64 v],.int .i64 0] w fun e w'=>e=.returned (.agg #[.bool false,.int .i64 v])∧Below w.heap.size w w'):=fun w=>oT_v false v w
  have HT:Hid (∀ w:World,Calls Tryz.prog 57 #[.bool false,.int .i64 35] w fun e w'=>e=.returned (.tuple #[])∧w'=w):=fun w=>tif_no 35 w
  have HP:Hid (∀ w,Below W.heap.size W w→Calls Tryz.prog 161 #[.pointer (some ⟨rb,0,none⟩),.agg #[.bool false,.int .i64 v]] w fun e w'=>e=.returned (.tuple #[])∧SkR K W w' sb [{ p with xs:=p.xs++[(false,v)] }]):=fun w hb=>(put_e (h.below hb) ((hb.cell (p:=⟨rb,2,none⟩) hrb).trans hc) hr false v).mono (fun _ _ x=>⟨x.1,x.2.pre hb⟩)
  clear h hl hr
  go_enter Tryz.func99,Tryz.ntmps99
  go_upto_region 1 with fail
  go_region_law (first
    | (refine step_call2 rfl 162 callOTv (.tmp 12) (.tmp 13) 28 24 rfl (.agg #[.bool false,.int .i64 v]) (.int .i64 0) (by first|(simp [Act.eval];done)|(simp [Act.eval,Act.put];done)) (by first|(simp [Act.eval];done)|(simp [Act.eval,Act.put];done)) (HC.out _) ?_;rintro e w2 ⟨rfl,hb⟩;refine ⟨_,rfl,?_⟩;have j0:w2.cell? ⟨W.heap.size,0,none⟩=some (.int .i64 2):=kc hb (by first|exact i0|exact (World.cell?_alloc_lt _ _ _ l1).trans i0);have B2:Hid (Below W.heap.size W w2):=(by first|exact Below.step B1.out hb|exact Below.step (B1.out.alloc B1.out.size _) hb);(first|(have xx:=k2d hb yB.out;obtain ⟨xB,x0,x1,xf,xL,xN⟩:=xx)|(have xx:=k2d (n:=w1.heap.size) (a0:=.bool false) (a1:=.int .i64 0) (t:=28) hb (haA w1 _ rfl);obtain ⟨xB,x0,x1,xf,xL,xN⟩:=xx)|skip);have l2:=World.block_lt_of_cell? w2 _ j0;have n2:¬ W.heap.size=w2.heap.size:=Nat.ne_of_lt l2;clear hb B1 i0)
    | (refine step_call2 rfl 163 callLoc (.tmp 8) (.tmp 10) 112 3 rfl (.pointer (some ⟨sb,0,none⟩)) (.int .i64 (n:Int)) (by first|(simp [Act.eval];done)|(simp [Act.eval,Act.put];done)) (by first|(simp [Act.eval];done)|(simp [Act.eval,Act.put];done)) (HL.out _ (by repeat (first|exact Below.refl _ _|refine Below.setCell ?_ (by simp;try omega) _|refine Below.alloc ?_ (by simp;try omega) _|refine Below.drew ?_))) ?_;rintro e w1 ⟨rfl,hb⟩;refine ⟨_,rfl,?_⟩;have i0:w1.cell? ⟨W.heap.size,0,none⟩=some (.int .i64 2):=kc hb (by simp);have B1:Hid (Below W.heap.size W w1):=Below.step (by repeat (first|exact Below.refl _ _|refine Below.setCell ?_ (by simp;try omega) _|refine Below.alloc ?_ (by simp;try omega) _|refine Below.drew ?_)) hb;have l1:=World.block_lt_of_cell? w1 _ i0;have n1:¬ W.heap.size=w1.heap.size:=Nat.ne_of_lt l1;(first|(have yy:=k2d (n:=W.heap.size+1) (a0:=.bool false) (a1:=.int .i64 0) (t:=28) hb (haA (W.alloc _) _ (szA _ _));obtain ⟨yB,y0,y1,yf,yL,yN⟩:=yy)|skip);clear hb))
  all_goals go_wp2_with (first
    | (go_at_call 57;refine (HT.out _).mono ?_;rintro e w9 ⟨rfl,hw⟩;obtain rfl:=hw.symm)
    | (go_at_call 161;refine (HP.out _ (by repeat (first|refine Below.setCell ?_ (by simp;try omega) _|refine Below.alloc ?_ (by have:=B2.out.size;simp;try omega) _|refine Below.drew ?_|exact B2.out))).mono ?_;rintro e w3 ⟨rfl,hk⟩))
  all_goals exact bodyPost_end (results_none rfl _ _ _) rfl ⟨rfl,hk⟩
structure RA where
  ge:Nat
  he:Nat
  sb:Nat
  fb:Nat
  fc:Nat
  ba:Value
  bb:Value
  fu:Int
  nm:ByteArray
  ds:ByteArray
  fl:Int
  lo:Int
  st:Int
  cb:Nat
  cc:Nat
  code:List (Int×Int)
  ci:Int
  cj:Int
def runC (A:RA) (n:Nat) (sp:Nat) (hs vr:Bool) (vn:Int):Array Value:=#[.pointer (some ⟨A.ge,0,none⟩),.pointer (some ⟨A.he,0,none⟩),.pointer (some ⟨A.sb,0,none⟩),.slice (some ⟨A.fb,0,none⟩) n A.fc,A.ba,A.bb,.int .i64 A.fu,.string ⟨#[]⟩,.int .i64 0,.bool hs,.bool vr,.int .i64 vn,.int .i64 (sp:Int)]
def frmC (A:RA) (nx:Nat):List Value:=[.string A.nm,.string A.ds,.int .i64 A.fl,.int .i64 A.lo,.int .i64 A.st,.slice (some ⟨A.cb,0,none⟩) A.code.length A.cc,.int .i64 A.ci,.int .i64 A.cj,.int .i64 (nx:Int)]
def inC (i:Int×Int):Array Value:=#[.int .i64 i.1,.int .i64 i.2,.string ⟨#[]⟩,.bool false,.string ⟨#[]⟩,.string ⟨#[]⟩,.string ⟨#[]⟩]
structure RuAt (w:World) (K:Nat→Prop) (rb:Nat) (A:RA) (sp nx:Nat) (p:PF):Prop where
  sk:StA w K A.sb [p]
  hr:w.heap[rb]?=some (.cells (runC A 1 sp false false 0) 120 (0,0))
  hf:w.ownsRow 0 190 9 (.slice (some ⟨A.fb,0,none⟩) 1 A.fc) 1 (frmC A nx)
  hc:∀ k i,A.code[k]?=some i→∀ j,j<7→w.cell? ⟨A.cb,k * 7+j,none⟩=(inC i)[j]?
  cl:A.cb<w.heap.size
  nr:¬ K rb
  nf:¬ K A.fb
  nc:¬ K A.cb
  rf:rb≠A.fb
  rc:A.cb≠rb
  fc:A.cb≠A.fb
theorem RuAt.rl {w:World} {K:Nat→Prop} {rb:Nat} {A:RA} {sp nx:Nat} {p:PF} (h:RuAt w K rb A sp nx p):rb<w.heap.size:=(Array.getElem?_eq_some_iff.1 h.hr).1
theorem RuAt.fbl {w:World} {K:Nat→Prop} {rb:Nat} {A:RA} {sp nx:Nat} {p:PF} (h:RuAt w K rb A sp nx p):A.fb<w.heap.size:=(h.hf.lt A.fb rfl).2
theorem RuAt.keep {w w':World} {K K':Nat→Prop} {rb:Nat} {A:RA} {sp nx:Nat} {p q:PF} (h:RuAt w K rb A sp nx p) (s:StA w' K' A.sb [q]) (hk:∀ j,K' j→K j∨w.heap.size≤j) (hz:w.heap.size≤w'.heap.size) (ht:∀ j,j<w.heap.size→¬ K j→w'.heap[j]?=w.heap[j]?):RuAt w' K' rb A sp nx q :=
  { sk:=s
    hr:=(ht rb h.rl h.nr).trans h.hr
    hf:=own_keep h.hf (fun g hg=>by obtain rfl:A.fb=g:=(by simpa [Value.ownBlock] using hg);exact ht _ h.fbl h.nf)
    hc:=fun k i hi j hj=>by
      rw [← h.hc k i hi j hj]
      simp only [World.cell?,ht A.cb h.cl h.nc]
    cl:=Nat.lt_of_lt_of_le h.cl hz
    nr:=fun x=>(hk rb x).elim h.nr (fun y=>by have:=h.rl;omega)
    nf:=fun x=>(hk _ x).elim h.nf (fun y=>by have:=h.fbl;omega)
    nc:=fun x=>(hk _ x).elim h.nc (fun y=>by have:=h.cl;omega)
    rf:=h.rf
    rc:=h.rc
    fc:=h.fc }
theorem RuAt.below {w w':World} {K:Nat→Prop} {rb:Nat} {A:RA} {sp nx:Nat} {p:PF} (h:RuAt w K rb A sp nx p) (hb:Below w.heap.size w w'):RuAt w' K rb A sp nx p :=
  h.keep (h.sk.below hb) (fun _ x=>.inl x) hb.size (fun j hj _=>hb.block j hj)
theorem RuAt.setSp {w:World} {K:Nat→Prop} {rb:Nat} {A:RA} {sp nx:Nat} {p:PF} (h:RuAt w K rb A sp nx p) (sp':Nat):RuAt (w.setCell ⟨rb,12,none⟩ (.int .i64 (sp':Int))) K rb A sp' nx p:=by
  have far:∀ j,j≠rb→(w.setCell ⟨rb,12,none⟩ (.int .i64 (sp':Int))).heap[j]?=w.heap[j]?:=fun j hj=>Below.heap_setCell _ _ _ _ hj
  have hz:(w.setCell ⟨rb,12,none⟩ (.int .i64 (sp':Int))).heap.size=w.heap.size:=by simp [World.setCell]
  exact
  { sk:=h.sk.keep (by omega) (fun j hj hk=>far j (fun e=>h.nr (e ▸ hk)))
    hr:=by rw [Go.Joins.block_setCell h.hr];rfl
    hf:=own_keep h.hf (fun x hx=>by obtain rfl:A.fb=x:=(by simpa [Value.ownBlock] using hx);exact far _ h.rf.symm)
    hc:=fun k i hi j hj=>by
      rw [← h.hc k i hi j hj]
      simp only [World.cell?,far A.cb h.rc]
    cl:=by have:=h.cl;omega
    nr:=h.nr,nf:=h.nf,nc:=h.nc,rf:=h.rf,rc:=h.rc,fc:=h.fc }
theorem RuAt.setNx {w:World} {K:Nat→Prop} {rb:Nat} {A:RA} {sp nx:Nat} {p:PF} (h:RuAt w K rb A sp nx p) (nx':Nat):RuAt (w.setCell ⟨A.fb,8,none⟩ (.int .i64 (nx':Int))) K rb A sp nx' p:=by
  have far:∀ j,j≠A.fb→(w.setCell ⟨A.fb,8,none⟩ (.int .i64 (nx':Int))).heap[j]?=w.heap[j]?:=fun j hj=>Below.heap_setCell _ _ _ _ hj
  have hz:(w.setCell ⟨A.fb,8,none⟩ (.int .i64 (nx':Int))).heap.size=w.heap.size:=by simp [World.setCell]
  exact
  { sk:=h.sk.keep (by omega) (fun j hj hk=>far j (fun e=>h.nf (e ▸ hk)))
    hr:=(far rb h.rf).trans h.hr
    hf:=(h.hf.stored 8 (.int .i64 (nx':Int))).1
    hc:=fun k i hi j hj=>by
      rw [← h.hc k i hi j hj]
      simp only [World.cell?,far A.cb h.fc]
    cl:=by have:=h.cl;omega
    nr:=h.nr,nf:=h.nf,nc:=h.nc,rf:=h.rf,rc:=h.rc,fc:=h.fc }
theorem RuAt.c {w:World} {K:Nat→Prop} {rb:Nat} {A:RA} {sp nx:Nat} {p:PF} (h:RuAt w K rb A sp nx p):w.cell? ⟨rb,0,none⟩=some (.pointer (some ⟨A.ge,0,none⟩))∧w.cell? ⟨rb,2,none⟩=some (.pointer (some ⟨A.sb,0,none⟩))∧w.cell? ⟨rb,3,none⟩=some (.slice (some ⟨A.fb,0,none⟩) 1 A.fc)∧w.cell? ⟨rb,6,none⟩=some (.int .i64 A.fu)∧w.cell? ⟨rb,12,none⟩=some (.int .i64 (sp:Int))∧(∀ k,w.frozen? ⟨rb,k,none⟩=false) :=
  ⟨(cell_of_row w rb 0 _ _ _ h.hr).trans rfl,(cell_of_row w rb 2 _ _ _ h.hr).trans rfl,(cell_of_row w rb 3 _ _ _ h.hr).trans rfl,(cell_of_row w rb 6 _ _ _ h.hr).trans rfl,(cell_of_row w rb 12 _ _ _ h.hr).trans rfl,fun k=>frozen_of_row w rb k _ _ h.hr⟩
theorem RuAt.f {w:World} {K:Nat→Prop} {rb:Nat} {A:RA} {sp nx:Nat} {p:PF} (h:RuAt w K rb A sp nx p):w.cell? ⟨A.fb,1,none⟩=some (.string A.ds)∧w.cell? ⟨A.fb,5,none⟩=some (.slice (some ⟨A.cb,0,none⟩) A.code.length A.cc)∧w.cell? ⟨A.fb,8,none⟩=some (.int .i64 (nx:Int))∧(∀ k,w.frozen? ⟨A.fb,k,none⟩=false) :=
  ⟨(h.hf.cellAt 1 (by decide)).trans rfl,(h.hf.cellAt 5 (by decide)).trans rfl,(h.hf.cellAt 8 (by decide)).trans rfl,fun k=>h.hf.frozenAt k⟩
theorem top_e {W:World} {rb fb fc:Nat} (h:W.cell? ⟨rb,3,none⟩=some (.slice (some ⟨fb,0,none⟩) 1 fc)):Calls Tryz.prog 56 #[.pointer (some ⟨rb,0,none⟩)] W fun e w'=>e=.returned (.pointer (some ⟨fb,0,none⟩))∧w'=W.drew:=by
  go_enter Tryz.func56,Tryz.ntmps56
  go_upto_region 1 with fail
  all_goals go_region
  all_goals go_wp2
  all_goals go_ret
  all_goals exact ⟨rfl,rfl⟩
def inV (i:Int×Int):Value:=.agg #[.int .i64 i.1,.int .i64 i.2,.string ⟨#[]⟩,.bool false,.string ⟨#[]⟩,.string ⟨#[]⟩,.string ⟨#[]⟩]
set_option maxHeartbeats 8000000 in
theorem step_e {W:World} {K:Nat→Prop} {rb:Nat} {A:RA} {sp nx:Nat} {p:PF} (h:RuAt W K rb A sp nx p) (op n:Int) (hi:A.code[nx]?=some (op,n)) (hz:A.code.length≤1000) (hsp:(sp:Int)<A.fu) (hfu:A.fu≤100000) (E:Ending) (hE:E=.returned (.tuple #[])∨∃ x,E=thr x) (Q:World→Prop)
    (HD:∀ w,RuAt w K rb A (sp+1) (nx+1) p→Tch (fun j=>j=rb∨j=A.fb) W w→Calls Tryz.prog 58 #[.pointer (some ⟨rb,0,none⟩),inV (op,n)] w fun e w'=>e=E∧Q w') :
    Calls Tryz.prog 31 #[.pointer (some ⟨rb,0,none⟩)] W fun e w'=>e=E∧Q w':=by
  obtain ⟨c0,c2,c3,c6,c12,rz⟩:=h.c
  obtain ⟨f1,f5,f8,fz⟩:=h.f
  have hl:=(List.getElem?_eq_some_iff.1 hi).1
  have H0:Hid (RuAt W K rb A sp nx p):=h
  have hrl:=h.rl
  have hfl:=h.fbl
  have hcl:=h.cl
  have hrf:=h.rf
  have hrc:=h.rc
  have hfc:=h.fc
  obtain ⟨L,hL⟩:∃ L,A.code.length=L:=⟨_,rfl⟩
  obtain ⟨fb,hfb⟩:∃ fb,A.fb=fb:=⟨_,rfl⟩
  obtain ⟨cb,hcb⟩:∃ cb,A.cb=cb:=⟨_,rfl⟩
  obtain ⟨cc,hcc⟩:∃ cc,A.cc=cc:=⟨_,rfl⟩
  obtain ⟨fu,hfu2⟩:∃ fu,A.fu=fu:=⟨_,rfl⟩
  have HA:Hid (A.fb=fb∧A.cb=cb∧A.code.length=L∧A.cc=cc):=⟨hfb,hcb,hL,hcc⟩
  have HI:Hid (A.code[nx]?=some (op,n)):=hi
  rw [hL] at hl hz f5
  rw [hfb] at f1 f5 f8 fz hfl hrf hfc c3
  rw [hcb] at f5 hcl hrc hfc
  rw [hcc] at f5
  rw [hfu2] at hsp hfu c6
  have HT:Hid (∀ w,Below W.heap.size W w→Calls Tryz.prog 56 #[.pointer (some ⟨rb,0,none⟩)] w fun e w'=>e=.returned (.pointer (some ⟨fb,0,none⟩))∧w'=w.drew):=fun w hb=>top_e ((hb.cell (p:=⟨rb,3,none⟩) hrl).trans c3)
  have HN:Hid (∀ x w,Calls Tryz.prog 57 #[.bool false,.int .i64 x] w fun e w'=>e=.returned (.tuple #[])∧w'=w):=fun x w=>tif_no x w
  have HDD:Hid (∀ w,RuAt w K rb A (sp+1) (nx+1) p→Tch (fun j=>j=rb∨j=fb) W w→Calls Tryz.prog 58 #[.pointer (some ⟨rb,0,none⟩),.agg #[.int .i64 op,.int .i64 n,.string ⟨#[]⟩,.bool false,.string ⟨#[]⟩,.string ⟨#[]⟩,.string ⟨#[]⟩]] w fun e w'=>e=E∧Q w'):=fun w h1 h2=>HD w h1 (by rw [hfb];exact h2)
  have hle:¬ L≤nx:=by omega
  have hle2:decide (L≤nx)=false:=by simpa using hle
  have hge:¬ fu≤(sp:Int):=by omega
  have hge2:decide (fu≤(sp:Int))=false:=by simpa using hge
  clear h hi HD hL hfb hcb hcc hfu2
  go_enter Tryz.func31,Tryz.ntmps31
  go_upto_region 1 with (go_at_call 56;refine (HT.out _ (by repeat (first|exact Below.refl _ _|refine Below.setCell ?_ (by simp;try omega) _|refine Below.alloc ?_ (by simp;try omega) _|refine Below.drew ?_))).mono ?_;rintro e w1 ⟨rfl,hw⟩;obtain rfl:=hw.symm)
  go_cut [] (fun wx=>Hid (wx=W.drew.drew))
  case first =>
    go_region_with (go_at_call 57;refine (HN.out _ _).mono ?_;rintro e w1 ⟨rfl,hw⟩;obtain rfl:=hw.symm)
    all_goals (go_wp2_with fail)
    all_goals go_meet
    all_goals exact rfl
  case rest =>
    have hcut2:=hcut.out
    clear hcut
    subst hcut2
    go_upto_region 2 with fail
    go_cut [] (fun wx=>Hid (wx=W.drew.drew.drew))
    case first =>
      go_region_with (go_at_call 57;refine (HN.out _ _).mono ?_;rintro e w1 ⟨rfl,hw⟩;obtain rfl:=hw.symm)
      all_goals (go_wp2_with fail)
      all_goals go_meet
      all_goals exact rfl
    case rest =>
      have hcut2:=hcut.out
      clear hcut
      subst hcut2
      go_upto_region 4 with fail
      obtain ⟨V,hV⟩:∃ V,V=(W.setCell ⟨rb,12,none⟩ (.int .i64 ((sp:Int)+1))).drew.drew.drew:=⟨_,rfl⟩
      have e1:(sp:Int)+1=((sp+1:Nat):Int):=by omega
      have RV:RuAt V K rb A (sp+1) nx p:=by
        rw [hV,e1]
        exact (H0.out.setSp (sp+1)).below ((Below.refl _ _).drew.drew.drew)
      have TV:Hid (Tch (fun j=>j=rb∨j=fb) W V):=by
        rw [hV]
        exact (((Tch.refl _ W).set (.inl (.inl rfl)) _).drew.drew).drew
      have zV:V.heap.size=W.heap.size:=by rw [hV];simp
      rw [← hV]
      obtain ⟨g1,g5,g8,gz⟩:=RV.f
      obtain ⟨i0,i1,i2,i3,i4,i5,i6⟩:V.cell? ⟨A.cb,nx * 7,none⟩=some (.int .i64 op)∧V.cell? ⟨A.cb,nx * 7+1,none⟩=some (.int .i64 n)∧V.cell? ⟨A.cb,nx * 7+2,none⟩=some (.string ⟨#[]⟩)∧V.cell? ⟨A.cb,nx * 7+3,none⟩=some (.bool false)∧V.cell? ⟨A.cb,nx * 7+4,none⟩=some (.string ⟨#[]⟩)∧V.cell? ⟨A.cb,nx * 7+5,none⟩=some (.string ⟨#[]⟩)∧V.cell? ⟨A.cb,nx * 7+6,none⟩=some (.string ⟨#[]⟩) :=
        ⟨(RV.hc nx _ HI.out 0 (by decide)).trans rfl,(RV.hc nx _ HI.out 1 (by decide)).trans rfl,(RV.hc nx _ HI.out 2 (by decide)).trans rfl,(RV.hc nx _ HI.out 3 (by decide)).trans rfl,(RV.hc nx _ HI.out 4 (by decide)).trans rfl,(RV.hc nx _ HI.out 5 (by decide)).trans rfl,(RV.hc nx _ HI.out 6 (by decide)).trans rfl⟩
      rw [HA.out.1] at g5 g8 gz
      rw [HA.out.2.1,HA.out.2.2.1,HA.out.2.2.2] at g5
      rw [HA.out.2.1] at i0 i1 i2 i3 i4 i5 i6
      have HRV:Hid (RuAt V K rb A (sp+1) nx p):=RV
      have h0:(0:Int)≤(nx:Int):=by omega
      have h1:(nx:Int)<(L:Int):=by omega
      have nb:¬ rb=V.heap.size:=by omega
      have nf:¬ fb=V.heap.size:=by omega
      have nc:¬ cb=V.heap.size:=by omega
      clear RV hV e1
      go_cut [3] (fun s3 wx=>Hid (s3=.pointer (some ⟨V.heap.size,0,none⟩)∧wx.heap[V.heap.size]?=some (.cells (inC (op,n)) 39 (0,0))∧Below V.heap.size V wx))
      case first =>
        go_region
        all_goals (go_wp2_with fail)
        all_goals go_meet
        all_goals exact ⟨by rw [zV],halloc1 _ _,((Below.refl _ _).alloc (Nat.le_refl _) _).drew⟩
      case rest =>
        obtain ⟨rfl,hb3,hbel⟩:=hcut.out
        clear hcut
        have RC:=HRV.out.below hbel
        have HRC:Hid (RuAt wc K rb A (sp+1) nx p):=RC
        have TC:Hid (Tch (fun j=>j=rb∨j=fb) W wc):=TV.out.bel hbel
        rw [zV] at hb3
        obtain ⟨m1,m5,m8,mz⟩:=RC.f
        rw [HA.out.1] at m8 mz
        have k0:wc.cell? ⟨W.heap.size,0,none⟩=some (.int .i64 op):=(cell_of_row wc _ 0 _ _ _ hb3).trans rfl
        have k1:wc.cell? ⟨W.heap.size,1,none⟩=some (.int .i64 n):=(cell_of_row wc _ 1 _ _ _ hb3).trans rfl
        have k2:wc.cell? ⟨W.heap.size,2,none⟩=some (.string ⟨#[]⟩):=(cell_of_row wc _ 2 _ _ _ hb3).trans rfl
        have k3:wc.cell? ⟨W.heap.size,3,none⟩=some (.bool false):=(cell_of_row wc _ 3 _ _ _ hb3).trans rfl
        have k4:wc.cell? ⟨W.heap.size,4,none⟩=some (.string ⟨#[]⟩):=(cell_of_row wc _ 4 _ _ _ hb3).trans rfl
        have k5:wc.cell? ⟨W.heap.size,5,none⟩=some (.string ⟨#[]⟩):=(cell_of_row wc _ 5 _ _ _ hb3).trans rfl
        have k6:wc.cell? ⟨W.heap.size,6,none⟩=some (.string ⟨#[]⟩):=(cell_of_row wc _ 6 _ _ _ hb3).trans rfl
        have nf2:¬ W.heap.size=fb:=by omega
        have e1:(nx:Int)+1=((nx+1:Nat):Int):=by omega
        have HX:Hid (Calls Tryz.prog 58 #[.pointer (some ⟨rb,0,none⟩),.agg #[.int .i64 op,.int .i64 n,.string ⟨#[]⟩,.bool false,.string ⟨#[]⟩,.string ⟨#[]⟩,.string ⟨#[]⟩]] (wc.setCell ⟨fb,8,none⟩ (.int .i64 ((nx:Int)+1))) fun e w'=>e=E∧Q w'):=HDD.out _ (by rw [e1,← HA.out.1];exact HRC.out.setNx (nx+1)) (TC.out.set (.inl (.inr rfl)) _)
        clear hb3 hbel RC m1 m5 e1 i0 i1 i2 i3 i4 i5 i6 g1 g5 g8 gz HDD HT HN
        rcases hE with rfl|⟨x,rfl⟩
        · go_wp2_with (go_at_call 58;refine HX.out.mono ?_;rintro e w9 ⟨rfl,hq⟩)
          exact bodyPost_end (results_none rfl _ _ _) rfl ⟨rfl,hq⟩
        · go_wp2_with (go_at_call 58;refine HX.out.mono ?_;rintro e w9 ⟨he,hq⟩;rw [thr] at he;subst he)
          exact ⟨rfl,rfl,hq⟩
set_option maxHeartbeats 1000000 in
theorem do_load {W:World} {rb:Nat} {n:Int} {Q:World→Prop} (HL:Hid (∀ w,Below W.heap.size W w→Calls Tryz.prog 99 #[.pointer (some ⟨rb,0,none⟩),.agg #[.int .i64 2,.int .i64 n,.string ⟨#[]⟩,.bool false,.string ⟨#[]⟩,.string ⟨#[]⟩,.string ⟨#[]⟩]] w fun e w'=>e=.returned (.tuple #[])∧Q w')):Calls Tryz.prog 58 #[.pointer (some ⟨rb,0,none⟩),inV (2,n)] W fun e w'=>e=.returned (.tuple #[])∧Q w':=by
  unfold inV
  go_enter Tryz.func58,Tryz.ntmps58
  go_wp2_with (go_at_call 99;refine (HL.out _ (by repeat (first|exact Below.refl _ _|refine Below.setCell ?_ (by simp;try omega) _|refine Below.alloc ?_ (by simp;try omega) _|refine Below.drew ?_))).mono ?_;rintro e w1 ⟨rfl,hq⟩)
  exact bodyPost_end (results_none rfl _ _ _) rfl ⟨rfl,hq⟩
set_option maxHeartbeats 1000000 in
theorem do_iconst {W:World} {rb:Nat} {n:Int} {Q:World→Prop} (HL:Hid (∀ w,Below W.heap.size W w→Calls Tryz.prog 97 #[.pointer (some ⟨rb,0,none⟩),.int .i64 n] w fun e w'=>e=.returned (.tuple #[])∧Q w')):Calls Tryz.prog 58 #[.pointer (some ⟨rb,0,none⟩),inV (1,n)] W fun e w'=>e=.returned (.tuple #[])∧Q w':=by
  unfold inV
  go_enter Tryz.func58,Tryz.ntmps58
  go_wp2_with (go_at_call 97;refine (HL.out _ (by repeat (first|exact Below.refl _ _|refine Below.setCell ?_ (by simp;try omega) _|refine Below.alloc ?_ (by simp;try omega) _|refine Below.drew ?_))).mono ?_;rintro e w1 ⟨rfl,hq⟩)
  exact bodyPost_end (results_none rfl _ _ _) rfl ⟨rfl,hq⟩
set_option maxHeartbeats 1000000 in
theorem do_comp {W:World} {rb:Nat} {op n:Int} (ho:op=7∨op=8∨op=9∨op=10) {Q:World→Prop} (HL:Hid (∀ w,Below W.heap.size W w→Calls Tryz.prog 101 #[.pointer (some ⟨rb,0,none⟩),.int .i64 op] w fun e w'=>e=.returned (.tuple #[])∧Q w')):Calls Tryz.prog 58 #[.pointer (some ⟨rb,0,none⟩),inV (op,n)] W fun e w'=>e=.returned (.tuple #[])∧Q w':=by
  unfold inV
  rcases ho with rfl|rfl|rfl|rfl
  all_goals
    go_enter Tryz.func58,Tryz.ntmps58
    go_wp2_with (go_at_call 101;refine (HL.out _ (by repeat (first|exact Below.refl _ _|refine Below.setCell ?_ (by simp;try omega) _|refine Below.alloc ?_ (by simp;try omega) _|refine Below.drew ?_))).mono ?_;rintro e w1 ⟨rfl,hq⟩)
    exact bodyPost_end (results_none rfl _ _ _) rfl ⟨rfl,hq⟩
set_option maxHeartbeats 1000000 in
theorem do_ireturn {W:World} {rb:Nat} {n:Int} {Q:World→Prop} (HL:Hid (∀ w,Below W.heap.size W w→Calls Tryz.prog 115 #[.pointer (some ⟨rb,0,none⟩)] w fun e w'=>e=.returned (.tuple #[])∧Q w')):Calls Tryz.prog 58 #[.pointer (some ⟨rb,0,none⟩),inV (36,n)] W fun e w'=>e=.returned (.tuple #[])∧Q w':=by
  unfold inV
  go_enter Tryz.func58,Tryz.ntmps58
  go_wp2_with (go_at_call 115;refine (HL.out _ (by repeat (first|exact Below.refl _ _|refine Below.setCell ?_ (by simp;try omega) _|refine Below.alloc ?_ (by simp;try omega) _|refine Below.drew ?_))).mono ?_;rintro e w1 ⟨rfl,hq⟩)
  exact bodyPost_end (results_none rfl _ _ _) rfl ⟨rfl,hq⟩
end Go.Proofs.YtdpodamnfpehkaaGreatDoor.Sk
