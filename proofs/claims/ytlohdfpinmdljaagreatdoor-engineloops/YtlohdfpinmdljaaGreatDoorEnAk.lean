import Derived.Test.YtlohdfpinmdljaaGreatDoorEnWd
import Derived.Test.YtlohdfpinmdljaaGreatDoorEnAb
import Derived.Test.YtlohdfpinmdljaaGreatDoorShelfI
import Derived.Test.YtlohdfpinmdljaaGreatDoorRows
import Derived.Lib.LaidTab
import Derived.Lib.LaidU8
set_option maxRecDepth 100000
namespace Go.Proofs.YtlohdfpinmdljaaGreatDoor.Sk
open Go.RowKit Go.Maps
def TenIn (w : World) : Prop := Lib.TabIs Tryz.prog w "internal/strconv.uint64pow10" .u64 Lib.pow10Tab
theorem ten_g : Tryz.prog.globalNamed "internal/strconv.uint64pow10" = some 1 := by kernel_rfl
theorem TenIn.tch {w w':World} {S:Nat→Prop} (h:TenIn w) (ht:Tch S w w') (hn:¬ S 1):TenIn w':=by
  unfold TenIn Lib.TabIs World.var? at h ⊢
  rw [ten_g] at h ⊢
  simp only [Option.bind_some] at h ⊢
  have hlt:1<w.heap.size:=by
    rcases Nat.lt_or_ge 1 w.heap.size with h'|h'
    · exact h'
    · rw [Array.getElem?_eq_none h'] at h;cases h
  rw [ht.blk 1 hlt hn]
  exact h
theorem TenIn.lt {w:World} (h:TenIn w):1<w.heap.size:=by
  unfold TenIn Lib.TabIs World.var? at h
  rw [ten_g] at h
  simp only [Option.bind_some] at h
  rcases Nat.lt_or_ge 1 w.heap.size with h'|h'
  · exact h'
  · rw [Array.getElem?_eq_none h'] at h;cases h
theorem TenIn.below {w w':World} (h:TenIn w) (hb:Below w.heap.size w w'):TenIn w':=h.tch ((Tch.refl (fun _=>False) w).bel hb) id
theorem grow_below (w:World) (k:Nat) (os:Array Obj):Below w.heap.size w (Sort.grow (w.drewN k) os) :=
  ⟨rfl,rfl,rfl,by rw [Sort.size_grow];exact Nat.le_add_right _ _,fun j hj=>by
    show (w.heap++os)[j]?=_
    rw [Array.getElem?_append_left hj]⟩
theorem itoa_t (n:Int) (h0:-9223372036854775808≤n) (h1:n≤9223372036854775807) (w:World) (h:TenIn w):Calls Tryz.prog 187 #[.int .i64 n] w fun e w'=>e=.returned (.string ⟨(Lib.itoa n).toArray⟩)∧Below w.heap.size w w' :=
  (Tryz.strconv_Itoa n h0 h1 w h).mono fun e w' ⟨he,k,os,hw⟩=>⟨he,by rw [hw];exact grow_below _ _ _⟩
def RA.wr (A:RA) (rb:Nat) (v:Value):RA:={ A with ba:=.pointer (some ⟨rb,4,none⟩),bb:=v }
structure OutAt (w:World) (K:Nat→Prop) (rb B:Nat) (A:RA) (o:List UInt8):Prop where
  ow:w.ownsRow B 5 1 A.bb o.length (Lib.byteCells o)
  ba:A.ba=.pointer none∨A.ba=.pointer (some ⟨rb,4,none⟩)
  ap:∀ g,A.bb.ownBlock=some g→¬ K g∧g≠rb∧g≠A.fb∧g≠A.cb
  nl:o=[]→A.bb=.slice none 0 0
theorem OutAt.keep {w w':World} {K K':Nat→Prop} {rb B:Nat} {A:RA} {o:List UInt8} (h:OutAt w K rb B A o) (ht:Tch (fun j=>K j∨j=rb∨j=A.fb) w w') (hk:∀ j,K' j→K j∨w.heap.size≤j):OutAt w' K' rb B A o :=
  { ow:=own_keep h.ow (fun g hg=>ht.blk g (h.ow.lt g hg).2 (fun x=>by
      obtain ⟨a1,a2,a3,_⟩:=h.ap g hg
      rcases x with x|x|x
      · exact a1 x
      · exact a2 x
      · exact a3 x))
    ba:=h.ba
    ap:=fun g hg=>⟨fun x=>(hk g x).elim (h.ap g hg).1 (fun y=>by have:=(h.ow.lt g hg).2;omega),(h.ap g hg).2⟩
    nl:=h.nl }
theorem OutAt.below {w w':World} {K:Nat→Prop} {rb B:Nat} {A:RA} {o:List UInt8} (h:OutAt w K rb B A o) (hb:Below w.heap.size w w'):OutAt w' K rb B A o :=
  h.keep ((Tch.refl _ w).bel hb) (fun _ x=>.inl x)
theorem RuAt.out {w w':World} {K:Nat→Prop} {rb B:Nat} {A:RA} {sp nx:Nat} {p:PF} {o:List UInt8} (h:RuAt w K rb A sp nx p) (hO:OutAt w K rb B A o) (v':Value) (hr:w'.heap[rb]?=some (.cells (runC (A.wr rb v') 1 sp false false 0) 88 (0,0))) (ht:Tch (fun j=>j=rb∨A.bb.ownBlock=some j) w w'):RuAt w' K rb (A.wr rb v') sp nx p :=
  { sk:=h.sk.keep ht.size (fun j hj hk=>ht.blk j hj (fun x=>by rcases x with x|x;exact h.nr (x ▸ hk);exact (hO.ap j x).1 hk))
    hr:=hr
    hf:=own_keep h.hf (fun g hg=>by
      have e0:(A.wr rb v').fb=g:=by simpa [Value.ownBlock] using hg
      obtain rfl:A.fb=g:=e0
      exact ht.blk _ h.fbl (fun x=>by rcases x with x|x;exact h.rf x.symm;exact (hO.ap _ x).2.2.1 rfl))
    hc:=fun k i hi j hj=>by
      rw [← h.hc k i hi j hj]
      have hb:=ht.blk A.cb h.cl (fun x=>by rcases x with x|x;exact h.rc x;exact (hO.ap _ x).2.2.2 rfl)
      show w'.cell? ⟨A.cb,k * 7+j,none⟩=_
      simp only [World.cell?,hb]
    cl:=Nat.lt_of_lt_of_le h.cl ht.size
    nr:=h.nr,nf:=h.nf,nc:=h.nc,rf:=h.rf,rc:=h.rc,fc:=h.fc }
set_option maxHeartbeats 2000000 in
theorem write_e {W:World} {K:Nat→Prop} {rb B:Nat} {A:RA} {sp nx:Nat} {p:PF} {o:List UInt8} (h:RuAt W K rb A sp nx p) (hO:OutAt W K rb B A o) (hB:B≤W.heap.size) (s:ByteArray) (hs:o.length+s.size+1≤4096) :
    Calls Tryz.prog 186 #[.pointer (some ⟨rb,0,none⟩),.string s] W fun e w'=>e=.returned (.tuple #[])∧∃ v',w'.heap[rb]?=some (.cells (runC (A.wr rb v') 1 sp false false 0) 88 (0,0))∧w'.ownsRow B 5 1 v' (o++s.data.toList++[10]).length (Lib.byteCells (o++s.data.toList++[10]))∧(∀ k,v'.ownBlock=some k→A.bb.ownBlock=some k∨W.heap.size≤k)∧Tch (fun j=>j=rb∨A.bb.ownBlock=some j) W w':=by
  obtain ⟨a,c,hA⟩:∃ a c,A.bb=.slice a o.length c:=by
    rcases hO.ow.2 with ⟨hv,h0⟩|⟨g,cap,cur,hv,_⟩
    · exact ⟨none,0,by rw [hv,h0]⟩
    · exact ⟨_,_,hv⟩
  have c5:W.cell? ⟨rb,5,none⟩=some (.slice a o.length c):=(cell_of_row W rb 5 _ _ _ h.hr).trans (congrArg some hA)
  have hrl:=h.rl
  have e1:=IntWalk.wrap64_in ((o.length:Int)+(s.size:Int)) ⟨by omega,by omega⟩
  have e2:=IntWalk.wrap64_in ((o.length:Int)+(s.size:Int)+1) ⟨by omega,by omega⟩
  have hd:¬ (4096:Int)<(o.length:Int)+(s.size:Int)+1:=by omega
  have hv:A.bb.ownBlock≠some rb:=fun e=>(hO.ap rb e).2.1 rfl
  have HN:Hid (∀ w,Calls Tryz.prog 49 #[.bool (decide ((4096:Int)<(o.length:Int)+(s.size:Int)+1)),.int .i64 37] w fun e w'=>e=.returned (.tuple #[])∧w'=w):=fun w=>by rw [decide_eq_false hd];exact tif_no 37 w
  have HL:Hid (Calls Tryz.prog 243 #[.pointer (some ⟨rb,4,none⟩)] W fun e w'=>e=.returned (.int .i64 o.length)∧w'=W):=blen_c c5
  have HW:Hid (Calls Tryz.prog 244 #[.pointer (some ⟨rb,4,none⟩),.string s] W fun e w'=>e=.returned (.tuple #[.int .i64 s.size,.nilIface])∧∃ v',w'.heap[rb]?=some (.cells (runC (A.wr rb v') 1 sp false false 0) 88 (0,0))∧w'.ownsRow B 5 1 v' (o.length+s.size) (Lib.byteCells o++Lib.strCells s)∧(∀ k,v'.ownBlock=some k→A.bb.ownBlock=some k∨W.heap.size≤k)∧Tch (fun j=>j=rb∨A.bb.ownBlock=some j) W w') :=
    (wstr_c h.hr rfl rfl rfl hO.ba o.length (Lib.byteCells o) hO.ow hv s (by omega) hB).mono fun e w' ⟨he,v',q1,q2,q3,q4⟩=>⟨he,v',q1,q2,q3,q4⟩
  have HX:Hid (∀ v1 w1,w1.heap[rb]?=some (.cells (runC (A.wr rb v1) 1 sp false false 0) 88 (0,0))→w1.ownsRow B 5 1 v1 (o.length+s.size) (Lib.byteCells o++Lib.strCells s)→v1.ownBlock≠some rb→B≤w1.heap.size→Calls Tryz.prog 244 #[.pointer (some ⟨rb,4,none⟩),.string ⟨#[10]⟩] w1 fun e w'=>e=.returned (.tuple #[.int .i64 (1:Nat),.nilIface])∧∃ v',w'.heap[rb]?=some (.cells (runC (A.wr rb v') 1 sp false false 0) 88 (0,0))∧w'.ownsRow B 5 1 v' (o.length+s.size+1) (Lib.byteCells o++Lib.strCells s++Lib.strCells ⟨#[10]⟩)∧(∀ k,v'.ownBlock=some k→v1.ownBlock=some k∨w1.heap.size≤k)∧Tch (fun j=>j=rb∨v1.ownBlock=some j) w1 w'):=fun v1 w1 p1 p2 p3 p4 =>
    (wstr_c p1 rfl rfl rfl (.inr rfl) (o.length+s.size) (Lib.byteCells o++Lib.strCells s) p2 p3 ⟨#[10]⟩ (by show o.length+s.size+1≤1000000;omega) p4).mono fun e w' ⟨he,v',q1,q2,q3,q4⟩=>⟨he,v',q1,q2,q3,q4⟩
  have HB:Hid (B≤W.heap.size):=hB
  have HRB:Hid (A.bb.ownBlock≠some rb):=hv
  have hall:Lib.byteCells o++Lib.strCells s++Lib.strCells ⟨#[10]⟩=Lib.byteCells (o++s.data.toList++[10]):=by rw [Lib.byteCells_append,Lib.byteCells_append];rfl
  have hln:(o++s.data.toList++[10]).length=o.length+s.size+1:=by rw [List.length_append,List.length_append,Array.length_toList];rfl
  rw [hln,← hall]
  clear h hO hB hA c5 hv hall hln hs
  go_enter Tryz.func186,Tryz.ntmps186
  go_upto_region 1 with (first
    | (go_at_call 49;refine (HN.out _).mono ?_;rintro e w1 ⟨rfl,hw⟩;obtain rfl:=hw.symm)
    | (go_at_call 243;refine (HL.out).mono ?_;rintro e w1 ⟨rfl,hw⟩;obtain rfl:=hw.symm))
  go_upto_region 2 with (go_at_call 244;refine (HW.out).mono ?_;rintro e w1 ⟨rfl,v1,h1,h2,h3,h4⟩;have h1:Hid _:=h1;have h2:Hid _:=h2;have h3:Hid _:=h3;have h4:Hid _:=h4)
  go_wp2_with (go_at_call 244;refine (HX.out v1 w1 h1.out h2.out (fun x=>(h3.out rb x).elim HRB.out (fun y=>by omega)) (Nat.le_trans HB.out h4.out.size)).mono ?_;rintro e w2 ⟨rfl,v2,k1,k2,k3,k4⟩;have k1:Hid _:=k1;have k2:Hid _:=k2;have k3:Hid _:=k3;have k4:Hid _:=k4)
  have hz4:=h4.out.size
  refine bodyPost_end (results_none rfl _ _ _) rfl ⟨rfl,v2,k1.out,k2.out,fun k hk=>?_,?_⟩
  · rcases k3.out k hk with x|x
    · exact h3.out k x
    · exact .inr (Nat.le_trans hz4 x)
  · exact h4.out.trans k4.out (fun j hj x=>by
      rcases x with x|x
      · exact .inl x
      · exact (h3.out j x).elim .inr (fun y=>by omega))
set_option maxHeartbeats 1000000 in
theorem print_e {W:World} {K:Nat→Prop} {rb B:Nat} {A:RA} {sp nx:Nat} {p:PF} {o:List UInt8} (h:RuAt W K rb A sp nx p) (hO:OutAt W K rb B A o) (hB:B≤W.heap.size) (hT:TenIn W) (hn:¬ K 1) (ys:List (Bool×Int)) (v:Int) (hx:p.xs=ys++[(false,v)]) (hv:I32 v) (hs:o.length+(Lib.itoa v).length+1≤4096) :
    Calls Tryz.prog 109 #[.pointer (some ⟨rb,0,none⟩)] W fun e w'=>e=.returned (.tuple #[])∧∃ K' v',RuAt w' K' rb (A.wr rb v') sp nx { p with xs:=ys }∧OutAt w' K' rb B (A.wr rb v') (o++Lib.itoa v++[10])∧(∀ j,K' j→K j∨W.heap.size≤j)∧Tch (fun j=>K j∨j=rb∨B≤j) W w':=by
  have HA:Hid (Calls Tryz.prog 157 #[.pointer (some ⟨rb,0,none⟩)] W fun e w'=>e=.returned (.int .i64 v)∧SkR K W w' A.sb [{ p with xs:=ys }]):=takeInt_e h.sk h.c.2.1 ys v hx
  have HI:Hid (∀ w,TenIn w→Calls Tryz.prog 187 #[.int .i64 v] w fun e w'=>e=.returned (.string ⟨(Lib.itoa v).toArray⟩)∧Below w.heap.size w w'):=fun w ht=>itoa_t v (by unfold I32 at hv;omega) (by unfold I32 at hv;omega) w ht
  have HW:Hid (∀ K1 w,RuAt w K1 rb A sp nx { p with xs:=ys }→OutAt w K1 rb B A o→B≤w.heap.size→Calls Tryz.prog 186 #[.pointer (some ⟨rb,0,none⟩),.string ⟨(Lib.itoa v).toArray⟩] w fun e w'=>e=.returned (.tuple #[])∧∃ v',RuAt w' K1 rb (A.wr rb v') sp nx { p with xs:=ys }∧OutAt w' K1 rb B (A.wr rb v') (o++Lib.itoa v++[10])∧Tch (fun j=>j=rb∨B≤j) w w'):=fun K1 w hr ho hb =>
    (write_e hr ho hb ⟨(Lib.itoa v).toArray⟩ (by show o.length+(Lib.itoa v).toArray.size+1≤4096;simpa using hs)).mono fun e w' ⟨he,v',q1,q2,q3,q4⟩=>⟨he,v',hr.out ho v' q1 q4,⟨q2,.inr rfl,fun g hg=>(q3 g hg).elim (fun x=>ho.ap g x) (fun x=>⟨fun y=>by have:=hr.sk.lt y;omega,by have:=hr.rl;omega,by show g≠A.fb;have:=hr.fbl;omega,by show g≠A.cb;have:=hr.cl;omega⟩),fun e=>by simp at e⟩,q4.mono (fun k hk x=>x.imp id (fun y=>(ho.ow.lt k y).1))⟩
  have H0:Hid (RuAt W K rb A sp nx p):=h
  have O0:Hid (OutAt W K rb B A o):=hO
  have B0:Hid (B≤W.heap.size):=hB
  have T0:Hid (TenIn W∧¬ K 1):=⟨hT,hn⟩
  clear h hO hB hT hn hx hv hs
  go_enter Tryz.func109,Tryz.ntmps109
  go_wp2_with (first
    | (go_at_call 186; refine (HW.out K1 _ (R1.out.below B2.out) (O1.out.below B2.out) (Nat.le_trans B0.out (Nat.le_trans T1.out.size B2.out.size))).mono ?_; rintro e w3 ⟨rfl, v', r3, o3, t3⟩
       have r3:Hid _:=r3
       have o3:Hid _:=o3
       have t3:Hid _:=t3)
    | (go_at_call 187; refine (HI.out _ (T0.out.1.tch T1.out T0.out.2)).mono ?_; rintro e w2 ⟨rfl, hb⟩
       have B2:Hid (Below w1.heap.size w1 w2):=hb
       clear hb HI)
    | (go_at_call 157; refine (HA.out).mono ?_; rintro e w1 ⟨rfl, hk⟩
       obtain ⟨K1,s1,a1,t1⟩:=hk
       have R1:Hid (RuAt w1 K1 rb A sp nx { p with xs:=ys }):=H0.out.keep s1 a1 t1.size t1.blk
       have O1:Hid (OutAt w1 K1 rb B A o):=O0.out.keep (t1.mono (fun _ _ x=>.inl x)) a1
       have A1:Hid (∀ j,K1 j→K j∨W.heap.size≤j):=a1
       have T1:Hid (Tch K W w1):=t1
       clear s1 a1 t1 HA))
  refine bodyPost_end (results_none rfl _ _ _) rfl ⟨rfl,K1,v',r3.out,o3.out,A1.out,?_⟩
  exact ((T1.out.bel B2.out).mono (fun _ _ x=>Or.inl x)).trans t3.out (fun _ _ x=>.inr x)
set_option maxHeartbeats 1000000 in
theorem do_print {W:World} {rb:Nat} {n:Int} {Q:World→Prop} (HL:Hid (∀ w,Below W.heap.size W w→Calls Tryz.prog 109 #[.pointer (some ⟨rb,0,none⟩)] w fun e w'=>e=.returned (.tuple #[])∧Q w')):Calls Tryz.prog 50 #[.pointer (some ⟨rb,0,none⟩),inV (39,n)] W fun e w'=>e=.returned (.tuple #[])∧Q w':=by
  unfold inV
  go_enter Tryz.func50,Tryz.ntmps50
  go_wp2_with (go_at_call 109;refine (HL.out _ (by repeat (first|exact Below.refl _ _|refine Below.setCell ?_ (by simp;try omega) _|refine Below.alloc ?_ (by simp;try omega) _|refine Below.drew ?_))).mono ?_;rintro e w1 ⟨rfl,hq⟩)
  exact bodyPost_end (results_none rfl _ _ _) rfl ⟨rfl,hq⟩
def RuO (K:Nat→Prop) (W w':World) (rb B:Nat) (A:RA) (sp nx:Nat) (p:PF) (o:List UInt8):Prop:=∃ K' b1 b2,RuAt w' K' rb { A with ba:=b1,bb:=b2 } sp nx p∧OutAt w' K' rb B { A with ba:=b1,bb:=b2 } o∧(∀ j,K' j→K j∨W.heap.size≤j)∧Tch (fun j=>K j∨j=rb∨j=A.fb∨B≤j) W w'
theorem RuR.o {K:Nat→Prop} {W w':World} {rb B:Nat} {A:RA} {sp nx:Nat} {p:PF} {o:List UInt8} (hO:OutAt W K rb B A o) (h:RuR K W w' rb A sp nx p):RuO K W w' rb B A sp nx p o:=by
  obtain ⟨K',h1,h2,h3⟩:=h
  exact ⟨K',A.ba,A.bb,h1,hO.keep h3 h2,h2,h3.mono (fun _ _ x=>x.elim .inl (fun y=>.inr (y.elim .inl (fun z=>.inr (.inl z)))))⟩
theorem stp_print {W:World} {K:Nat→Prop} {rb B:Nat} {A:RA} {sp nx:Nat} {p:PF} {o:List UInt8} (h:RuAt W K rb A sp nx p) (hO:OutAt W K rb B A o) (hB:B≤W.heap.size) (hT:TenIn W) (hn:¬ K 1) (hn2:1≠rb) (hn3:1≠A.fb) (n:Int) (hi:A.code[nx]?=some (39,n)) (hz:A.code.length≤1000) (hsp:(sp:Int)<A.fu) (hfu:A.fu≤100000) (ys:List (Bool×Int)) (v:Int) (hx:p.xs=ys++[(false,v)]) (hv:I32 v) (hs:o.length+(Lib.itoa v).length+1≤4096) :
    Calls Tryz.prog 26 #[.pointer (some ⟨rb,0,none⟩)] W fun e w'=>e=.returned (.tuple #[])∧RuO K W w' rb B A (sp+1) (nx+1) { p with xs:=ys } (o++Lib.itoa v++[10]) :=
  step_e h 39 n hi hz hsp hfu _ (.inl rfl) _ fun _ hw ht=>do_print fun w2 hb =>
    have t2:Tch (fun j=>j=rb∨j=A.fb) W w2:=ht.bel hb
    (print_e (hw.below hb) (hO.keep (t2.mono (fun _ _ x=>.inr x)) (fun _ x=>.inl x)) (Nat.le_trans hB t2.size) (hT.tch t2 (fun x=>x.elim hn2 hn3)) hn ys v hx hv hs).mono fun _ _ ⟨he,K',v',q1,q2,q3,q4⟩ =>
      ⟨he,K',_,v',q1,q2,fun j hj=>(q3 j hj).imp id (Nat.le_trans t2.size),(t2.mono (fun _ _ x=>Or.inr (x.elim .inl (fun y=>.inr (.inl y))))).trans q4 (fun _ _ x=>x.elim .inl (fun y=>.inr (y.elim .inl (fun z=>.inr (.inr z)))))⟩
theorem step_throw2 {P:Program} {ops:Array Oper} {o:Oper} {a:Act} {w:World} {K:Act→World→Prop} {Q:Exit→Act→World→Prop} {E:Prop} (hg:o.guard=none) (f:Nat) (hf:∀ (vs:Array Value) (w:World),(callFunc f vs).run P w=.ok (.enter f vs) w) (x y:Operand) (t1 t2:TypeId)
    (hop:o.op=Op.call { callee:=Callee.value (Operand.func f),args:=#[x,y],argTypes:=#[t1,t2] }) {R:Ending→World→Prop} (v1 v2:Value) (hv1:a.eval x=v1) (hv2:a.eval y=v2) (h:Calls P f #[v1,v2] w R) (hR:∀ e w',R e w'→∃ ch,e=.panicked ch∧Q (.panic ch) a w') (_:wpAny P .any #[] (fun _ _ _=>True) 0 #[] a w) :
    if Region.wanted o (yielded ops a.tmps)=true then Oper.wp P o a w K Q else E:=by
  have hw:Region.wanted o (yielded ops a.tmps)=true:=by simp [Region.wanted,hg]
  rw [if_pos hw]
  unfold Oper.wp
  have e:(execOp a.eval o).run P w=.ok (.enter f #[v1,v2]) w:=by
    simp [execOp,hop,resolve,invoke,hv1,hv2]
    simp [go_sem,hf]
  rw [e,Oper.upon_enter]
  exact h.mono (fun e w' hr=>by obtain ⟨u,rfl,hk⟩:=hR e w' hr;exact hk)
theorem callTif (vs:Array Value) (w:World):(callFunc 49 vs).run Tryz.prog w=.ok (.enter 49 vs) w:=by simp [go_sem]
set_option maxHeartbeats 4000000 in
theorem step_fuel {W:World} {K:Nat→Prop} {rb:Nat} {A:RA} {sp nx:Nat} {p:PF} (h:RuAt W K rb A sp nx p) (hl:nx<A.code.length) (hsp:A.fu≤(sp:Int)) :
    Calls Tryz.prog 26 #[.pointer (some ⟨rb,0,none⟩)] W fun e w'=>e=thr 36∧Below W.heap.size W w':=by
  obtain ⟨c0,c2,c3,c6,c12,rz⟩:=h.c
  obtain ⟨f1,f5,f8,fz⟩:=h.f
  have hrl:=h.rl
  have hfl:=h.fbl
  have hle:¬ A.code.length≤nx:=by omega
  have hle2:decide (A.code.length≤nx)=false:=by simpa using hle
  have hge2:decide (A.fu≤(sp:Int))=true:=by simpa using hsp
  have HT:Hid (∀ w,Below W.heap.size W w→Calls Tryz.prog 48 #[.pointer (some ⟨rb,0,none⟩)] w fun e w'=>e=.returned (.pointer (some ⟨A.fb,0,none⟩))∧w'=w.drew):=fun w hb=>top_e ((hb.cell (p:=⟨rb,3,none⟩) hrl).trans c3)
  have HN:Hid (∀ x w,Calls Tryz.prog 49 #[.bool false,.int .i64 x] w fun e w'=>e=.returned (.tuple #[])∧w'=w):=fun x w=>tif_no x w
  have HY:Hid (∀ w,Calls Tryz.prog 49 #[.bool true,.int .i64 36] w fun e w'=>e=thr 36∧w'=w):=fun w=>tif_yes 36 w
  clear h
  go_enter Tryz.func26,Tryz.ntmps26
  go_upto_region 1 with (go_at_call 48;refine (HT.out _ (by repeat (first|exact Below.refl _ _|refine Below.setCell ?_ (by simp;try omega) _|refine Below.alloc ?_ (by simp;try omega) _|refine Below.drew ?_))).mono ?_;rintro e w1 ⟨rfl,hw⟩;obtain rfl:=hw.symm)
  go_cut [] (fun wx=>Hid (wx=W.drew.drew))
  case first =>
    go_region_with (go_at_call 49;refine (HN.out _ _).mono ?_;rintro e w1 ⟨rfl,hw⟩;obtain rfl:=hw.symm)
    all_goals (go_wp2_with fail)
    all_goals go_meet
    all_goals exact rfl
  case rest =>
    have hcut2:=hcut.out
    clear hcut
    subst hcut2
    go_upto_region 2 with fail
    go_region_law (refine step_throw2 rfl 49 callTif (.tmp 27) (.const (.int .i64 36)) 4 30 rfl (.bool true) (.int .i64 36) (by simp [Act.eval,Act.put]) (by simp [Act.eval]) (HY.out _) (fun e w' hx=>⟨[{ v:=.iface 136 (.int .i64 36),recovered:=false }],hx.1,rfl,rfl,by obtain rfl:=hx.2;exact (by repeat (first|exact Below.refl _ _|refine Below.setCell ?_ (by simp;try omega) _|refine Below.alloc ?_ (by simp;try omega) _|refine Below.drew ?_))⟩) ?_)
    all_goals trivial
def runO (A:RA) (n sp:Nat) (hs:Bool) (v th:Int) (o:ByteArray):Array Value:=#[.pointer (some ⟨A.ge,0,none⟩),.pointer (some ⟨A.he,0,none⟩),.pointer (some ⟨A.sb,0,none⟩),.slice (some ⟨A.fb,0,none⟩) n A.fc,A.ba,A.bb,.int .i64 A.fu,.string o,.int .i64 th,.bool hs,.bool false,.int .i64 v,.int .i64 (sp:Int)]
def FinO (rb B n sp:Nat) (hs:Bool) (v:Int) (o:List UInt8) (w:World):Prop:=∃ A:RA,w.heap[rb]?=some (.cells (runC A n sp hs false v) 88 (0,0))∧w.ownsRow B 5 1 A.bb o.length (Lib.byteCells o)∧A.bb.ownBlock≠some rb∧(o=[]→A.bb=.slice none 0 0)
def FinP (rb B n sp:Nat) (hs:Bool) (v th:Int) (o:List UInt8) (w:World):Prop:=∃ A:RA,w.heap[rb]?=some (.cells (runO A n sp hs v th ⟨#[]⟩) 88 (0,0))∧w.ownsRow B 5 1 A.bb o.length (Lib.byteCells o)∧A.bb.ownBlock≠some rb∧(o=[]→A.bb=.slice none 0 0)
def FinQ (rb n sp:Nat) (hs:Bool) (v th:Int) (o:List UInt8) (w:World):Prop:=∃ A:RA,w.heap[rb]?=some (.cells (runO A n sp hs v th ⟨o.toArray⟩) 88 (0,0))
def LpO (W:World) (rb sb:Nat) (GA:RA→Prop) (nx:Nat→Nat) (ps:Nat→PF) (out:Nat→List UInt8) (k:Nat) (w:World):Prop :=
  Tch (fun j=>j=sb∨j=rb) W w∧∃ A K,GA A∧RuAt w K rb A k (nx k) (ps k)∧OutAt w K rb W.heap.size A (out k)∧W.heap.size≤A.fb∧∀ j,K j→j=sb∨W.heap.size≤j
theorem LpO.step {W w w':World} {rb sb:Nat} {GA:RA→Prop} {nx:Nat→Nat} {ps:Nat→PF} {out:Nat→List UInt8} {k:Nat} {A:RA} {K:Nat→Prop} (hGA:∀ A b1 b2,GA A→GA { A with ba:=b1,bb:=b2 }) (ht:Tch (fun j=>j=sb∨j=rb) W w) (hg:GA A) (hf:W.heap.size≤A.fb) (hk:∀ j,K j→j=sb∨W.heap.size≤j) (h:RuO K w w' rb W.heap.size A (k+1) (nx (k+1)) (ps (k+1)) (out (k+1))):LpO W rb sb GA nx ps out (k+1) w':=by
  obtain ⟨K',b1,b2,h1,h2,h3,h4⟩:=h
  refine ⟨ht.trans h4 (fun j hj x=>?_),_,K',hGA A b1 b2 hg,h1,h2,hf,fun j hj=>(h3 j hj).elim (hk j) (fun y=>.inr (Nat.le_trans ht.size y))⟩
  rcases x with x|x|x|x
  · exact (hk j x).elim .inl (fun y=>absurd y (by omega))
  · exact .inr x
  · omega
  · omega
set_option maxHeartbeats 1000000 in
theorem whole1_o {W:World} {rb sb bb mb ab:Nat} {q1 q2 q3:ByteArray} {av:Value} (b0:W.cell? ⟨bb,0,none⟩=some (.pointer (some ⟨rb,0,none⟩))) (m0:W.cell? ⟨mb,0,none⟩=some (.bool false)) (m1:W.cell? ⟨mb,1,none⟩=some (.string q1)) (m2:W.cell? ⟨mb,2,none⟩=some (.string q2)) (m3:W.cell? ⟨mb,3,none⟩=some (.string q3)) (a0:W.cell? ⟨ab,0,none⟩=some av)
    (I:Nat→World→Prop) (F:World→Prop) (M:Nat) (hbr:bb≠rb) (hbs:bb≠sb)
    (hI:∀ k w,I k w→Tch (fun j=>j=sb∨j=rb) W w∧spOf rb w=k∧∃ fb fc,w.cell? ⟨rb,3,none⟩=some (.slice (some ⟨fb,0,none⟩) 1 fc))
    (hF:∀ w,F w→Tch (fun j=>j=sb∨j=rb) W w∧spOf rb w=M+1∧∃ fb fc,w.cell? ⟨rb,3,none⟩=some (.slice (some ⟨fb,0,none⟩) 0 fc))
    (HB:Hid (Calls Tryz.prog 25 #[.pointer (some ⟨rb,0,none⟩),.agg #[.bool false,.string q1,.string q2,.string q3],av] W fun e w'=>e=.returned (.tuple #[])∧I 0 w'))
    (HS:Hid (∀ k,k<M→∀ w,I k w→Calls Tryz.prog 26 #[.pointer (some ⟨rb,0,none⟩)] w fun e w'=>e=.returned (.tuple #[])∧I (k+1) w'))
    (HE:Hid (∀ w,I M w→Calls Tryz.prog 26 #[.pointer (some ⟨rb,0,none⟩)] w fun e w'=>e=.returned (.tuple #[])∧F w')) :
    Calls Tryz.prog 24 #[.pointer (some ⟨bb,0,none⟩),.pointer (some ⟨mb,0,none⟩),.pointer (some ⟨ab,0,none⟩)] W fun e w'=>e=.returned (.tuple #[])∧F w':=by
  have HZ:Hid (¬ (bb=sb∨bb=rb)∧W.cell? ⟨bb,0,none⟩=some (.pointer (some ⟨rb,0,none⟩))):=⟨fun x=>x.elim hbs hbr,b0⟩
  have HI:Hid (∀ k w,I k w→Tch (fun j=>j=sb∨j=rb) W w∧spOf rb w=k∧∃ fb fc,w.cell? ⟨rb,3,none⟩=some (.slice (some ⟨fb,0,none⟩) 1 fc)):=hI
  have HF:Hid (∀ w,F w→Tch (fun j=>j=sb∨j=rb) W w∧spOf rb w=M+1∧∃ fb fc,w.cell? ⟨rb,3,none⟩=some (.slice (some ⟨fb,0,none⟩) 0 fc)):=hF
  clear hI hF
  go_enter Tryz.func24,Tryz.ntmps24
  go_wp2_with (first
    | (go_at_call 25; refine HB.out.mono ?_; rintro e w1 ⟨rfl, hi⟩
       have L1:Hid ((∃ k,k≤M∧I k w1)∨F w1):=.inl ⟨0,Nat.zero_le _,hi⟩
       clear hi HB))
  clear b0 m0 m1 m2 m3 a0 hbr hbs
  go_loopw [] (fun wr=>Hid ((∃ k,k≤M∧I k wr)∨F wr)) (fun wr=>M+2 - spOf rb wr)
  case atStart=>exact L1
  case round =>
    clear L1
    rcases hrel.out with ⟨k,hk,hi⟩|hen
    · obtain ⟨hbl,hsp,fb,fc,c3⟩:=HI.out k wr hi
      have hbc:wr.cell? ⟨bb,0,none⟩=some (.pointer (some ⟨rb,0,none⟩)):=tchCell hbl HZ.out.1 HZ.out.2
      have hbb:bb<wr.heap.size:=World.block_lt_of_cell? wr _ hbc
      have HSP:Hid (spOf rb wr=k):=hsp
      clear hrel hbl hsp
      by_cases hkM:k<M
      · have HX:Hid (Calls Tryz.prog 26 #[.pointer (some ⟨rb,0,none⟩)] wr fun e w'=>e=.returned (.tuple #[])∧((∃ k,k≤M∧I k w')∨F w')∧spOf rb w'=k+1):=(HS.out k hkM wr hi).mono fun e w' ⟨h1,h2⟩=>⟨h1,.inl ⟨k+1,hkM,h2⟩,(HI.out _ _ h2).2.1⟩
        clear hi HS HE HI HF
        go_wp2_with (go_at_call 26;refine HX.out.mono ?_;rintro e w2 ⟨rfl,hl,hs2⟩)
        go_roundw
        case rel=>exact hl
        case measure=>have:=HSP.out;omega
      · obtain rfl:k=M:=by omega
        have HX:Hid (Calls Tryz.prog 26 #[.pointer (some ⟨rb,0,none⟩)] wr fun e w'=>e=.returned (.tuple #[])∧((∃ k2,k2≤k∧I k2 w')∨F w')∧spOf rb w'=k+1):=(HE.out wr hi).mono fun e w' ⟨h1,h2⟩=>⟨h1,.inr h2,(HF.out _ h2).2.1⟩
        clear hi HS HE HI HF
        go_wp2_with (go_at_call 26;refine HX.out.mono ?_;rintro e w2 ⟨rfl,hl,hs2⟩)
        go_roundw
        case rel=>exact hl
        case measure=>have:=HSP.out;omega
    · obtain ⟨hbl,hsp,fb,fc,c3⟩:=HF.out wr hen
      have hbc:wr.cell? ⟨bb,0,none⟩=some (.pointer (some ⟨rb,0,none⟩)):=tchCell hbl HZ.out.1 HZ.out.2
      have HEN:Hid (F wr):=hen
      clear hrel hbl hsp hen HS HE HI HF
      go_wp2
      exact bodyPost_end (results_none rfl _ _ _) rfl ⟨rfl,HEN.out⟩
set_option maxHeartbeats 1000000 in
theorem whole1_x {W:World} {rb sb bb mb ab:Nat} {q1 q2 q3:ByteArray} {av:Value} (b0:W.cell? ⟨bb,0,none⟩=some (.pointer (some ⟨rb,0,none⟩))) (m0:W.cell? ⟨mb,0,none⟩=some (.bool false)) (m1:W.cell? ⟨mb,1,none⟩=some (.string q1)) (m2:W.cell? ⟨mb,2,none⟩=some (.string q2)) (m3:W.cell? ⟨mb,3,none⟩=some (.string q3)) (a0:W.cell? ⟨ab,0,none⟩=some av)
    (I:Nat→World→Prop) (F:World→Prop) (M:Nat) (E:Int) (hbr:bb≠rb) (hbs:bb≠sb)
    (hI:∀ k w,I k w→Tch (fun j=>j=sb∨j=rb) W w∧spOf rb w=k∧∃ fb fc,w.cell? ⟨rb,3,none⟩=some (.slice (some ⟨fb,0,none⟩) 1 fc))
    (HB:Hid (Calls Tryz.prog 25 #[.pointer (some ⟨rb,0,none⟩),.agg #[.bool false,.string q1,.string q2,.string q3],av] W fun e w'=>e=.returned (.tuple #[])∧I 0 w'))
    (HS:Hid (∀ k,k<M→∀ w,I k w→Calls Tryz.prog 26 #[.pointer (some ⟨rb,0,none⟩)] w fun e w'=>e=.returned (.tuple #[])∧I (k+1) w'))
    (HE:Hid (∀ w,I M w→Calls Tryz.prog 26 #[.pointer (some ⟨rb,0,none⟩)] w fun e w'=>e=thr E∧F w')) :
    Calls Tryz.prog 24 #[.pointer (some ⟨bb,0,none⟩),.pointer (some ⟨mb,0,none⟩),.pointer (some ⟨ab,0,none⟩)] W fun e w'=>e=thr E∧F w':=by
  have HZ:Hid (¬ (bb=sb∨bb=rb)∧W.cell? ⟨bb,0,none⟩=some (.pointer (some ⟨rb,0,none⟩))):=⟨fun x=>x.elim hbs hbr,b0⟩
  have HI:Hid (∀ k w,I k w→Tch (fun j=>j=sb∨j=rb) W w∧spOf rb w=k∧∃ fb fc,w.cell? ⟨rb,3,none⟩=some (.slice (some ⟨fb,0,none⟩) 1 fc)):=hI
  clear hI
  go_enter Tryz.func24,Tryz.ntmps24
  go_wp2_with (first
    | (go_at_call 25; refine HB.out.mono ?_; rintro e w1 ⟨rfl, hi⟩
       have L1:Hid (∃ k,k≤M∧I k w1):=⟨0,Nat.zero_le _,hi⟩
       clear hi HB))
  clear b0 m0 m1 m2 m3 a0 hbr hbs
  go_loopw [] (fun wr=>Hid (∃ k,k≤M∧I k wr)) (fun wr=>M+2 - spOf rb wr)
  case atStart=>exact L1
  case round =>
    clear L1
    obtain ⟨k,hk,hi⟩:=hrel.out
    obtain ⟨hbl,hsp,fb,fc,c3⟩:=HI.out k wr hi
    have hbc:wr.cell? ⟨bb,0,none⟩=some (.pointer (some ⟨rb,0,none⟩)):=tchCell hbl HZ.out.1 HZ.out.2
    have hbb:bb<wr.heap.size:=World.block_lt_of_cell? wr _ hbc
    have HSP:Hid (spOf rb wr=k):=hsp
    clear hrel hbl hsp
    by_cases hkM:k<M
    · have HX:Hid (Calls Tryz.prog 26 #[.pointer (some ⟨rb,0,none⟩)] wr fun e w'=>e=.returned (.tuple #[])∧(∃ k,k≤M∧I k w')∧spOf rb w'=k+1):=(HS.out k hkM wr hi).mono fun e w' ⟨h1,h2⟩=>⟨h1,⟨k+1,hkM,h2⟩,(HI.out _ _ h2).2.1⟩
      clear hi HS HE HI
      go_wp2_with (go_at_call 26;refine HX.out.mono ?_;rintro e w2 ⟨rfl,hl,hs2⟩)
      go_roundw
      case rel=>exact hl
      case measure=>have:=HSP.out;omega
    · obtain rfl:k=M:=by omega
      have HX:Hid (Calls Tryz.prog 26 #[.pointer (some ⟨rb,0,none⟩)] wr fun e w'=>e=thr E∧F w'):=HE.out wr hi
      clear hi HS HE HI
      go_wp2_with (go_at_call 26;refine HX.out.mono ?_;rintro e w2 ⟨he,hf⟩;rw [thr] at he;subst he)
      exact ⟨rfl,rfl,hf⟩
def resO (th:Int) (hs:Bool) (v:Int) (sp:Nat) (o:ByteArray):Value:=.agg #[.string o,.int .i64 th,.bool hs,.bool false,.int .i64 v,.int .i64 (sp:Int)]
theorem bstr_o {W:World} {rb B:Nat} {cs:Array Value} {v:Value} (hr:W.heap[rb]?=some (.cells cs 88 (0,0))) (h5:cs[5]?=some v) (l:List UInt8) (ho:W.ownsRow B 5 1 v l.length (Lib.byteCells l)) (hl:l.length≤1000000) (hv:v.ownBlock≠some rb) (hn:l=[]→v=.slice none 0 0) :
    Calls Tryz.prog 27 #[.pointer (some ⟨rb,4,none⟩)] W fun e w'=>e=.returned (.string ⟨l.toArray⟩)∧Tch (fun j=>v.ownBlock=some j) W w':=by
  by_cases h0:l=[]
  · obtain rfl:=hn h0
    subst h0
    refine (bstr_none ((cell_of_row W rb 5 _ _ _ hr).trans h5)).mono ?_
    rintro e w' ⟨rfl,rfl⟩
    exact ⟨rfl,(Tch.refl _ W).drew⟩
  · exact bstr_some hr h5 l h0 ho hl hv
set_option maxHeartbeats 2000000 in
theorem whole_o {W:World} {rb sb:Nat} {q1 q2 q3:ByteArray} {a:Option Addr} {an ac:Nat} (hrl:rb<W.heap.size) (hsl:sb<W.heap.size) (n sp:Nat) (hs:Bool) (v th:Int) (o:List UInt8) (hol:o.length≤1000000)
    (HC:Hid (∀ U bb mb ab,Below W.heap.size W U→W.heap.size≤bb→U.cell? ⟨bb,0,none⟩=some (.pointer (some ⟨rb,0,none⟩))→U.cell? ⟨mb,0,none⟩=some (.bool false)→U.cell? ⟨mb,1,none⟩=some (.string q1)→U.cell? ⟨mb,2,none⟩=some (.string q2)→U.cell? ⟨mb,3,none⟩=some (.string q3)→U.cell? ⟨ab,0,none⟩=some (.slice a an ac)→Calls Tryz.prog 23 #[.func (.func 24) #[] #[.pointer (some ⟨bb,0,none⟩),.pointer (some ⟨mb,0,none⟩),.pointer (some ⟨ab,0,none⟩)]] U fun e w'=>e=.returned (.int .i64 th)∧FinO rb U.heap.size n sp hs v o w'∧Tch (fun j=>j=sb∨j=rb) U w')) :
    Calls Tryz.prog 12 #[.pointer (some ⟨rb,0,none⟩),.agg #[.bool false,.string q1,.string q2,.string q3],.slice a an ac] W fun e w'=>e=.returned (resO th hs v sp ⟨o.toArray⟩)∧Tch (fun j=>j=sb∨j=rb) W w':=by
  have hmf:∀ (fn:Fn) (first cap:Array Value) (w:World),(Instr.makeFunc fn first cap).run Tryz.prog w=.ok (.func fn first cap) w:=fun _ _ _ _=>rfl
  go_enter Tryz.func12,Tryz.ntmps12
  go_upto_region 1 with fail
  refine wp_name (fun U hU=>?_)
  have zU:U.heap.size=W.heap.size+4:=by rw [hU];simp
  have r0:U.heap[W.heap.size]?=some (.cells #[.pointer (some ⟨rb,0,none⟩)] 51 (0,0)):=by rw [hU];exact hkA (hkA (hkA (haA W _ rfl)))
  have r1:U.heap[W.heap.size+1]?=some (.cells #[.bool false,.string q1,.string q2,.string q3] 26 (0,0)):=by rw [hU];exact hkA (hkA (haA (W.alloc _) _ (by rw [szA])))
  have r2:U.heap[W.heap.size+2]?=some (.cells #[.slice a an ac] 37 (0,0)):=by rw [hU];exact hkA (haA ((W.alloc _).alloc _) _ (by rw [szA,szA]))
  have rU:U.heap[W.heap.size+3]?=some (.cells #[.string ⟨#[]⟩,.int .i64 0,.bool false,.bool false,.int .i64 0,.int .i64 0] 34 (0,0)):=by rw [hU];exact haA (((W.alloc _).alloc _).alloc _) _ (by rw [szA,szA,szA])
  have u0:U.cell? ⟨W.heap.size,0,none⟩=some (.pointer (some ⟨rb,0,none⟩)):=(cell_of_row U _ 0 _ _ _ r0).trans rfl
  have m0:U.cell? ⟨W.heap.size+1,0,none⟩=some (.bool false):=(cell_of_row U _ 0 _ _ _ r1).trans rfl
  have m1:U.cell? ⟨W.heap.size+1,1,none⟩=some (.string q1):=(cell_of_row U _ 1 _ _ _ r1).trans rfl
  have m2:U.cell? ⟨W.heap.size+1,2,none⟩=some (.string q2):=(cell_of_row U _ 2 _ _ _ r1).trans rfl
  have m3:U.cell? ⟨W.heap.size+1,3,none⟩=some (.string q3):=(cell_of_row U _ 3 _ _ _ r1).trans rfl
  have a0:U.cell? ⟨W.heap.size+2,0,none⟩=some (.slice a an ac):=(cell_of_row U _ 0 _ _ _ r2).trans rfl
  have BU:Hid (Below W.heap.size W U):=by
    rw [hU]
    exact ((((Below.refl _ _).alloc (Nat.le_refl _) _).alloc (by rw [szA];omega) _).alloc (by rw [szA,szA];omega) _).alloc (by rw [szA,szA,szA];omega) _
  clear r0 r1 r2
  have U0:Hid (U.cell? ⟨W.heap.size,0,none⟩=some (.pointer (some ⟨rb,0,none⟩))):=u0
  have RU:Hid (U.heap[W.heap.size+3]?=some (.cells #[.string ⟨#[]⟩,.int .i64 0,.bool false,.bool false,.int .i64 0,.int .i64 0] 34 (0,0))):=rU
  have ND:Hid (∀ j,W.heap.size≤j→¬ (j=sb∨j=rb)):=fun j hj x=>by rcases x with rfl|rfl <;> omega
  have HD:Hid (∀ w,Below U.heap.size U w→Calls Tryz.prog 23 #[.func (.func 24) #[] #[.pointer (some ⟨W.heap.size,0,none⟩),.pointer (some ⟨W.heap.size+1,0,none⟩),.pointer (some ⟨W.heap.size+2,0,none⟩)]] w fun e w'=>e=.returned (.int .i64 th)∧FinO rb w.heap.size n sp hs v o w'∧Tch (fun j=>j=sb∨j=rb) w w'):=fun w hw =>
    HC.out w _ _ _ (Below.step BU.out hw) (Nat.le_refl _) (kc hw u0) (kc hw m0) (kc hw m1) (kc hw m2) (kc hw m3) (kc hw a0)
  have zr:¬ W.heap.size+3=rb:=by omega
  have zr2:¬ W.heap.size+3=sb:=by omega
  clear hU u0 m0 m1 m2 m3 a0 rU HC
  go_cut [] (fun wx=>Hid (FinP rb U.heap.size n sp hs v th o wx∧Tch (fun j=>j=sb∨j=rb) U wx))
  case first =>
    have u0:=U0.out
    go_region_with (go_at_call 23;refine (HD.out _ (by first|exact Below.refl _ _|exact (Below.refl _ _).drew)).mono ?_;rintro e w1 ⟨rfl,⟨A,hfin,hw1,hw2,hw3⟩,ht⟩;have hW1:Hid (w1.ownsRow U.heap.size 5 1 A.bb o.length (Lib.byteCells o)):=hw1;have hW2:Hid (A.bb.ownBlock≠some rb):=hw2;have hW3:Hid (o=[]→A.bb=.slice none 0 0):=hw3;have hfin2:Hid (w1.heap[rb]?=some (.cells (runC A n sp hs false v) 88 (0,0))):=hfin;have ht2:Hid (Tch (fun j=>j=sb∨j=rb) U w1):=(Tch.drew (Tch.refl _ U)).trans ht (fun _ _ x=>x);have x0:w1.cell? ⟨W.heap.size,0,none⟩=some (.pointer (some ⟨rb,0,none⟩)):=tchCell ht2.out (ND.out _ (Nat.le_refl _)) U0.out;have y8:w1.cell? ⟨rb,8,none⟩=some (.int .i64 0):=(cell_of_row w1 rb 8 _ _ _ hfin).trans rfl;have yz:=fun k=>frozen_of_row w1 rb k _ _ hfin;clear hfin ht hw1 hw2 hw3)
    all_goals (go_wp2_with fail)
    all_goals go_meet
    all_goals exact ⟨⟨A,(Go.Joins.block_setCell hfin2.out _).trans rfl,own_keep (by first|exact hW1.out|exact hW1.out.drew) (fun g hg=>Below.heap_setCell _ _ _ _ (fun e=>hW2.out ((show g=rb from e) ▸ hg))),hW2.out,hW3.out⟩,ht2.out.set (.inl (.inr rfl)) _⟩
  case rest =>
    obtain ⟨⟨A,hfin,hw1,hw2,hw3⟩,ht⟩:=hcut.out
    clear hcut HD
    go_upto_region 2 with fail
    go_cut [] (fun wx=>Hid (FinQ rb n sp hs v th o wx∧Tch (fun j=>j=sb∨j=rb) U wx))
    case first =>
      have x0:wc.cell? ⟨W.heap.size,0,none⟩=some (.pointer (some ⟨rb,0,none⟩)):=tchCell ht (ND.out _ (Nat.le_refl _)) U0.out
      have y7:wc.cell? ⟨rb,7,none⟩=some (.string ⟨#[]⟩):=(cell_of_row wc rb 7 _ _ _ hfin).trans rfl
      have yz:=fun k=>frozen_of_row wc rb k _ _ hfin
      have HFI:Hid (wc.heap[rb]?=some (.cells (runO A n sp hs v th ⟨#[]⟩) 88 (0,0))):=hfin
      have HTI:Hid (Tch (fun j=>j=sb∨j=rb) U wc):=ht
      have HW1:Hid (wc.ownsRow U.heap.size 5 1 A.bb o.length (Lib.byteCells o)):=hw1
      have HW2:Hid (A.bb.ownBlock≠some rb):=hw2
      have HS5:Hid (∀ w:World,w.heap=wc.heap→Calls Tryz.prog 27 #[.pointer (some ⟨rb,4,none⟩)] w fun e w'=>e=.returned (.string ⟨o.toArray⟩)∧Tch (fun j=>A.bb.ownBlock=some j) w w'):=fun w h=>bstr_o (by rw [h];exact hfin) rfl o (own_keep hw1 (fun g _=>by rw [h])) hol hw2 hw3
      have hrl2:rb<wc.heap.size:=World.block_lt_of_cell? wc _ y7
      clear hfin ht hw1 hw2 hw3
      go_region_with (go_at_call 27; refine (HS5.out _ (by first | rfl | simp)).mono ?_; rintro e w1 ⟨rfl, ht5⟩
                      have T5:Hid (Tch (fun j=>A.bb.ownBlock=some j) wc w1):=((Tch.refl _ wc).drew).trans ht5 (fun _ _ x=>x)
                      have F5:Hid (w1.heap[rb]?=some (.cells (runO A n sp hs v th ⟨#[]⟩) 88 (0,0))):=(T5.out.blk rb hrl2 HW2.out).trans HFI.out
                      have y7b:w1.cell? ⟨rb,7,none⟩=some (.string ⟨#[]⟩):=(cell_of_row w1 rb 7 _ _ _ F5.out).trans rfl
                      have yzb:=fun k=>frozen_of_row w1 rb k _ _ F5.out
                      have x0b:w1.cell? ⟨W.heap.size,0,none⟩=some (.pointer (some ⟨rb,0,none⟩)):=tchCell T5.out (fun e=>by have:=(HW1.out.lt _ e).1;omega) x0
                      clear ht5)
      all_goals (go_wp2_with fail)
      all_goals go_meet
      all_goals
        refine ⟨⟨A,(Go.Joins.block_setCell F5.out _).trans rfl⟩,?_⟩
        exact (HTI.out.trans T5.out (fun k hk x=>by have:=(HW1.out.lt k x).1;omega)).set (.inl (.inr rfl)) _
    case rest =>
      obtain ⟨⟨A,hfin⟩,ht⟩:=hcut.out
      clear hcut hw1 hw2 hw3
      have x0:wc.cell? ⟨W.heap.size,0,none⟩=some (.pointer (some ⟨rb,0,none⟩)):=tchCell ht (ND.out _ (Nat.le_refl _)) U0.out
      have y7:wc.cell? ⟨rb,7,none⟩=some (.string ⟨o.toArray⟩):=(cell_of_row wc rb 7 _ _ _ hfin).trans rfl
      have y8:wc.cell? ⟨rb,8,none⟩=some (.int .i64 th):=(cell_of_row wc rb 8 _ _ _ hfin).trans rfl
      have y9:wc.cell? ⟨rb,9,none⟩=some (.bool hs):=(cell_of_row wc rb 9 _ _ _ hfin).trans rfl
      have y10:wc.cell? ⟨rb,10,none⟩=some (.bool false):=(cell_of_row wc rb 10 _ _ _ hfin).trans rfl
      have y11:wc.cell? ⟨rb,11,none⟩=some (.int .i64 v):=(cell_of_row wc rb 11 _ _ _ hfin).trans rfl
      have y12:wc.cell? ⟨rb,12,none⟩=some (.int .i64 (sp:Int)):=(cell_of_row wc rb 12 _ _ _ hfin).trans rfl
      have zr3:¬ W.heap.size+1+1+1=rb:=zr
      have hrw:wc.heap[W.heap.size+1+1+1]?=_:=(ht.blk _ (by omega) (ND.out _ (by omega))).trans RU.out
      have w0:wc.cell? ⟨W.heap.size+1+1+1,0,none⟩=some (.string ⟨#[]⟩):=(cell_of_row wc _ 0 _ _ _ hrw).trans rfl
      have w1:wc.cell? ⟨W.heap.size+1+1+1,1,none⟩=some (.int .i64 0):=(cell_of_row wc _ 1 _ _ _ hrw).trans rfl
      have w2:wc.cell? ⟨W.heap.size+1+1+1,2,none⟩=some (.bool false):=(cell_of_row wc _ 2 _ _ _ hrw).trans rfl
      have w3:wc.cell? ⟨W.heap.size+1+1+1,3,none⟩=some (.bool false):=(cell_of_row wc _ 3 _ _ _ hrw).trans rfl
      have w4:wc.cell? ⟨W.heap.size+1+1+1,4,none⟩=some (.int .i64 0):=(cell_of_row wc _ 4 _ _ _ hrw).trans rfl
      have w5:wc.cell? ⟨W.heap.size+1+1+1,5,none⟩=some (.int .i64 0):=(cell_of_row wc _ 5 _ _ _ hrw).trans rfl
      have wz:=fun k=>frozen_of_row wc (W.heap.size+1+1+1) k _ _ hrw
      have HTI:Hid (Tch (fun j=>j=sb∨j=rb) W wc):=((Tch.refl _ W).bel BU.out).trans ht (fun _ _ x=>x)
      clear hfin ht hrw RU U0
      go_wp2
      refine bodyPost_ret (v:=resO th hs v sp ⟨o.toArray⟩) (by simp [results,Tryz.results12,go_sem,resO, *]) rfl ⟨rfl,?_⟩
      exact (((((HTI.out.set (.inr (by show W.heap.size≤W.heap.size+1+1+1;omega)) _).set (.inr (by show W.heap.size≤W.heap.size+1+1+1;omega)) _).set (.inr (by show W.heap.size≤W.heap.size+1+1+1;omega)) _).set (.inr (by show W.heap.size≤W.heap.size+1+1+1;omega)) _).set (.inr (by show W.heap.size≤W.heap.size+1+1+1;omega)) _).set (.inr (by show W.heap.size≤W.heap.size+1+1+1;omega)) _
theorem ten_t:(Tryz.prog.globals[1]?).map (·.type)=some 461:=by kernel_rfl
theorem cells_ten:Tryz.prog.cellsOf 461=20:=by kernel_rfl
theorem cells_u64:Tryz.prog.cellsOf 430=1:=by kernel_rfl
theorem laid_ten {H:Type}:(Rows.laid_internal_strconv_uint64pow10:DataW H)=Lib.tabData .u64 Lib.pow10Tab:=by
  have h:Lib.pow10Tab=[1,10,100,1000,10000,100000,1000000,10000000,100000000,1000000000,10000000000,100000000000,1000000000000,10000000000000,100000000000000,1000000000000000,10000000000000000,100000000000000000,1000000000000000000,10000000000000000000]:=by decide +kernel
  rw [h];rfl
theorem ten_in {W : World} (h : Lib.VarReads Tryz.prog W "internal/strconv.uint64pow10" Rows.laid_internal_strconv_uint64pow10) : TenIn W := by
  obtain ⟨g,t,cs,fuel,p,hg,ht,hvar,hd⟩:=h
  obtain rfl:=Option.some.inj (ten_g.symm.trans hg)
  obtain rfl:=Option.some.inj (ten_t.symm.trans ht)
  rw [laid_ten] at hd
  unfold TenIn Lib.TabIs
  rw [hvar,← Lib.cells_of_tab Tryz.underlying461 Tryz.underlying430 cells_u64 cells_ten hd]
end Go.Proofs.YtlohdfpinmdljaaGreatDoor.Sk
