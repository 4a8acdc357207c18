import Derived.Test.YtjlfnelihbdhjaaGreatOvM
set_option maxRecDepth 100000
namespace Go.Proofs.YtjlfnelihbdhjaaGreat
open Go.RowKit Go.Maps
theorem step_call2 {P:Program} {ops:Array Oper} {o:Oper} {a:Act} {w:World} {K:Act→World→Prop} {Q:Exit→Act→World→Prop} {E:Prop} (hg:o.guard=none) (f:Nat) (hf:∀ (vs:Array Value) (w:World),(callFunc f vs).run P w=.ok (.enter f vs) w) (x y:Operand) (t1 t2:TypeId)
    (hop:o.op=Op.call { callee:=Callee.value (Operand.func f),args:=#[x,y],argTypes:=#[t1,t2] }) {R:Ending→World→Prop} (v1 v2:Value) (hv1:a.eval x=v1) (hv2:a.eval y=v2) (h:Calls P f #[v1,v2] w R) (hR:∀ e w',R e w'→∃ u,e=.returned u∧K (a.put o.dst u) w') :
    if Region.wanted o (yielded ops a.tmps)=true then Oper.wp P o a w K Q else E:=by
  have hw:Region.wanted o (yielded ops a.tmps)=true:=by simp [Region.wanted,hg]
  rw [if_pos hw]
  unfold Oper.wp
  have e:(execOp a.eval o).run P w=.ok (.enter f #[v1,v2]) w:=by
    simp [execOp,hop,resolve,invoke,hv1,hv2]
    simp [go_sem,hf]
  rw [e,Oper.upon_enter]
  exact h.mono (fun e w' hr=>by obtain ⟨u,rfl,hk⟩:=hR e w' hr;exact hk)
theorem callR9all (vs:Array Value) (w:World):(callFunc 73 vs).run Tryz.prog w=.ok (.enter 73 vs) w:=by simp [go_sem]
theorem callR9in (vs:Array Value) (w:World):(callFunc 72 vs).run Tryz.prog w=.ok (.enter 72 vs) w:=by simp [go_sem]
set_option maxHeartbeats 4000000 in
theorem r9all_no {b:Nat} {cs:List Cls} {ps:List Plc} {W:World} (h:RAt b cs W) (ht:TwW cs ps) (c i:Int) (x:HM) (hx:methI ps c i=some x) (hst:hasI x.fl 8=true):Calls Tryz.prog 73 #[.pointer (some ⟨b,0,none⟩),.agg #[.int .i64 c,.int .i64 i]] W fun e w'=>e=.returned (.slice none 0 0)∧Below W.heap.size W w':=by
  have HM:Hid (∀ w,Below W.heap.size W w→Calls Tryz.prog 143 #[.pointer (some ⟨b,0,none⟩),.agg #[.int .i64 c,.int .i64 i]] w fun e w'=>(∃ a n s,e=.returned (.agg #[.string x.nm,.string x.ds,.int .i64 x.fl,.int .i64 x.lo,.int .i64 x.st,.slice a n s]))∧Below w.heap.size w w'):=fun w hb=>r9meth_c (h.below hb) ht c i x hx
  have HH:Hid (∀ w:World,Calls Tryz.prog 101 #[.int .i64 x.fl,.int .i64 8] w fun e w'=>e=.returned (.bool true)∧w'=w):=fun w=>by
    have:=has_any x.fl 8 w
    rw [hst] at this
    exact this
  have FLD:∀ (a:Option Addr) (n m:Nat) (w:World),(Instr.field 81 (.agg #[.string x.nm,.string x.ds,.int .i64 x.fl,.int .i64 x.lo,.int .i64 x.st,.slice a n m]) 2).run Tryz.prog w=.ok (.int .i64 x.fl) w:=fun a n m w=>by
    simp [Instr.field,run_underlying Tryz.underlying81,go_sem,part,asAgg]
  clear h ht hx hst
  go_enter Tryz.func73,Tryz.ntmps73
  go_wp2_with (first
    | (go_at_call 143;refine (HM.out _ ((Below.refl _ _).alloc (Nat.le_refl _) _)).mono ?_;rintro e w1 ⟨⟨xa,xk,xo,rfl⟩,hb⟩;have B1:Hid (Below W.heap.size W w1):=bstep ((Below.refl _ _).alloc (Nat.le_refl _) _) hb;clear hb HM)
    | (go_at_call 101;refine (HH.out _).mono ?_;rintro e w9 ⟨rfl,hw9⟩;rw [hw9];clear hw9 w9 HH))
  all_goals exact bodyPost_ret (results_tmp rfl _ _ _) rfl ⟨rfl,B1.out⟩
set_option maxHeartbeats 4000000 in
theorem r9Ow (W:World) (b:Nat) (c1 c2 a1 a2:Int) (ic ia p:Bool) (HI:Hid (∀ w,Below W.heap.size W w→Calls Tryz.prog 66 #[.pointer (some ⟨b,0,none⟩),.agg #[.int .i64 c1,.int .i64 c2]] w fun e w'=>(e=.returned (.bool ic))∧Below w.heap.size w w')) (HJ:Hid (∀ w,Below W.heap.size W w→Calls Tryz.prog 66 #[.pointer (some ⟨b,0,none⟩),.agg #[.int .i64 a1,.int .i64 a2]] w fun e w'=>(e=.returned (.bool ia))∧Below w.heap.size w w')) (HL0:Hid (ic=true→ia=true→∀ w,Below W.heap.size W w→Calls Tryz.prog 73 #[.pointer (some ⟨b,0,none⟩),.agg #[.int .i64 a1,.int .i64 a2]] w fun e w'=>(∃ v,e=.returned v∧Calls Tryz.prog 72 #[v,.agg #[.int .i64 c1,.int .i64 c2]] w' fun e2 w2=>e2=.returned (.bool p)∧Below w'.heap.size w' w2)∧Below w.heap.size w w')):Calls Tryz.prog 21 #[.pointer (some ⟨b,0,none⟩),.agg #[.int .i64 c1,.int .i64 c2],.agg #[.int .i64 a1,.int .i64 a2]] W fun e w'=>e=.returned (.tuple #[.bool (ic&&ia&&p),.int .i64 (if ic&&ia then 0 else 3)])∧Below W.heap.size W w':=by
  have BB:Hid (Below W.heap.size W W):=Below.refl _ _
  cases ic
  case false =>
    clear HL0
    show Calls Tryz.prog 21 #[.pointer (some ⟨b,0,none⟩),.agg #[.int .i64 c1,.int .i64 c2],.agg #[.int .i64 a1,.int .i64 a2]] W fun e w'=>e=.returned (.tuple #[.bool false,.int .i64 3])∧Below W.heap.size W w'
    go_enter Tryz.func21,Tryz.ntmps21
    go_wp2_with (first
      | (go_at_call 66;refine (HI.out _ (by repeat (first|refine Below.setCell ?_ (by simp;try omega) _|refine Below.alloc ?_ (by have:=BB.out.size;simp;try omega) _|refine Below.drew ?_|exact BB.out))).mono ?_;rintro e w1 ⟨rfl,hb⟩;have cbd:=kp2 (n:=W.heap.size) hb (by first|omega|(simp;try omega)) (hkeep (halloc1 _ _));(try clear cbB cb0 cb1 cbf cbL cbN);obtain ⟨cbB,cb0,cb1,cbf,cbL,cbN⟩:=cbd;have abd:=kp2 (n:=W.heap.size+1) hb (by first|omega|(simp;try omega)) (halloc2 _ _ (by simp));(try clear abB ab0 ab1 abf abL abN);obtain ⟨abB,ab0,ab1,abf,abL,abN⟩:=abd;have BB2:Below W.heap.size W w1:=bstep (by repeat (first|refine Below.setCell ?_ (by simp;try omega) _|refine Below.alloc ?_ (by have:=BB.out.size;simp;try omega) _|refine Below.drew ?_|exact BB.out)) hb;clear BB;have BB:Hid (Below W.heap.size W w1):=BB2;clear HI;clear BB2 hb)
      | (go_at_call 66;refine (HJ.out _ (by repeat (first|refine Below.setCell ?_ (by simp;try omega) _|refine Below.alloc ?_ (by have:=BB.out.size;simp;try omega) _|refine Below.drew ?_|exact BB.out))).mono ?_;rintro e w2 ⟨rfl,hb⟩;have cbd:=kp2 (n:=W.heap.size) hb (by first|omega|(simp;try omega)) (cbB.out);(try clear cbB cb0 cb1 cbf cbL cbN);obtain ⟨cbB,cb0,cb1,cbf,cbL,cbN⟩:=cbd;have abd:=kp2 (n:=W.heap.size+1) hb (by first|omega|(simp;try omega)) (abB.out);(try clear abB ab0 ab1 abf abL abN);obtain ⟨abB,ab0,ab1,abf,abL,abN⟩:=abd;have BB2:Below W.heap.size W w2:=bstep (by repeat (first|refine Below.setCell ?_ (by simp;try omega) _|refine Below.alloc ?_ (by have:=BB.out.size;simp;try omega) _|refine Below.drew ?_|exact BB.out)) hb;clear BB;have BB:Hid (Below W.heap.size W w2):=BB2;clear HJ;clear BB2 hb)
      | (go_at_call 73;refine (HL.out _ (by repeat (first|refine Below.setCell ?_ (by simp;try omega) _|refine Below.alloc ?_ (by have:=BB.out.size;simp;try omega) _|refine Below.drew ?_|exact BB.out))).mono ?_;rintro e w3 ⟨⟨vv,rfl,HQ0⟩,hb⟩;have cbd:=kp2 (n:=W.heap.size) hb (by first|omega|(simp;try omega)) (cbB.out);(try clear cbB cb0 cb1 cbf cbL cbN);obtain ⟨cbB,cb0,cb1,cbf,cbL,cbN⟩:=cbd;have abd:=kp2 (n:=W.heap.size+1) hb (by first|omega|(simp;try omega)) (abB.out);(try clear abB ab0 ab1 abf abL abN);obtain ⟨abB,ab0,ab1,abf,abL,abN⟩:=abd;have BB2:Below W.heap.size W w3:=bstep (by repeat (first|refine Below.setCell ?_ (by simp;try omega) _|refine Below.alloc ?_ (by have:=BB.out.size;simp;try omega) _|refine Below.drew ?_|exact BB.out)) hb;clear BB;have BB:Hid (Below W.heap.size W w3):=BB2;have HQ:Hid _:=HQ0;clear HL HQ0;clear BB2 hb)
      | (go_at_call 72;refine (HQ.out).mono ?_;rintro e w4 ⟨rfl,hb⟩;have BB2:Below W.heap.size W w4:=bstep (by repeat (first|refine Below.setCell ?_ (by simp;try omega) _|refine Below.alloc ?_ (by have:=BB.out.size;simp;try omega) _|refine Below.drew ?_|exact BB.out)) hb;clear BB;have BB:Hid (Below W.heap.size W w4):=BB2;clear HQ;clear BB2 hb))
    all_goals exact bodyPost_ret (results_tmp2 rfl _ _ _) rfl ⟨rfl,(by repeat (first|refine Below.setCell ?_ (by simp;try omega) _|refine Below.alloc ?_ (by have:=BB.out.size;simp;try omega) _|refine Below.drew ?_|exact BB.out))⟩
  case true =>
    cases ia
    case false =>
      clear HL0
      show Calls Tryz.prog 21 #[.pointer (some ⟨b,0,none⟩),.agg #[.int .i64 c1,.int .i64 c2],.agg #[.int .i64 a1,.int .i64 a2]] W fun e w'=>e=.returned (.tuple #[.bool false,.int .i64 3])∧Below W.heap.size W w'
      go_enter Tryz.func21,Tryz.ntmps21
      go_wp2_with (first
        | (go_at_call 66;refine (HI.out _ (by repeat (first|refine Below.setCell ?_ (by simp;try omega) _|refine Below.alloc ?_ (by have:=BB.out.size;simp;try omega) _|refine Below.drew ?_|exact BB.out))).mono ?_;rintro e w1 ⟨rfl,hb⟩;have cbd:=kp2 (n:=W.heap.size) hb (by first|omega|(simp;try omega)) (hkeep (halloc1 _ _));(try clear cbB cb0 cb1 cbf cbL cbN);obtain ⟨cbB,cb0,cb1,cbf,cbL,cbN⟩:=cbd;have abd:=kp2 (n:=W.heap.size+1) hb (by first|omega|(simp;try omega)) (halloc2 _ _ (by simp));(try clear abB ab0 ab1 abf abL abN);obtain ⟨abB,ab0,ab1,abf,abL,abN⟩:=abd;have BB2:Below W.heap.size W w1:=bstep (by repeat (first|refine Below.setCell ?_ (by simp;try omega) _|refine Below.alloc ?_ (by have:=BB.out.size;simp;try omega) _|refine Below.drew ?_|exact BB.out)) hb;clear BB;have BB:Hid (Below W.heap.size W w1):=BB2;clear HI;clear BB2 hb)
        | (go_at_call 66;refine (HJ.out _ (by repeat (first|refine Below.setCell ?_ (by simp;try omega) _|refine Below.alloc ?_ (by have:=BB.out.size;simp;try omega) _|refine Below.drew ?_|exact BB.out))).mono ?_;rintro e w2 ⟨rfl,hb⟩;have cbd:=kp2 (n:=W.heap.size) hb (by first|omega|(simp;try omega)) (cbB.out);(try clear cbB cb0 cb1 cbf cbL cbN);obtain ⟨cbB,cb0,cb1,cbf,cbL,cbN⟩:=cbd;have abd:=kp2 (n:=W.heap.size+1) hb (by first|omega|(simp;try omega)) (abB.out);(try clear abB ab0 ab1 abf abL abN);obtain ⟨abB,ab0,ab1,abf,abL,abN⟩:=abd;have BB2:Below W.heap.size W w2:=bstep (by repeat (first|refine Below.setCell ?_ (by simp;try omega) _|refine Below.alloc ?_ (by have:=BB.out.size;simp;try omega) _|refine Below.drew ?_|exact BB.out)) hb;clear BB;have BB:Hid (Below W.heap.size W w2):=BB2;clear HJ;clear BB2 hb)
        | (go_at_call 73;refine (HL.out _ (by repeat (first|refine Below.setCell ?_ (by simp;try omega) _|refine Below.alloc ?_ (by have:=BB.out.size;simp;try omega) _|refine Below.drew ?_|exact BB.out))).mono ?_;rintro e w3 ⟨⟨vv,rfl,HQ0⟩,hb⟩;have cbd:=kp2 (n:=W.heap.size) hb (by first|omega|(simp;try omega)) (cbB.out);(try clear cbB cb0 cb1 cbf cbL cbN);obtain ⟨cbB,cb0,cb1,cbf,cbL,cbN⟩:=cbd;have abd:=kp2 (n:=W.heap.size+1) hb (by first|omega|(simp;try omega)) (abB.out);(try clear abB ab0 ab1 abf abL abN);obtain ⟨abB,ab0,ab1,abf,abL,abN⟩:=abd;have BB2:Below W.heap.size W w3:=bstep (by repeat (first|refine Below.setCell ?_ (by simp;try omega) _|refine Below.alloc ?_ (by have:=BB.out.size;simp;try omega) _|refine Below.drew ?_|exact BB.out)) hb;clear BB;have BB:Hid (Below W.heap.size W w3):=BB2;have HQ:Hid _:=HQ0;clear HL HQ0;clear BB2 hb)
        | (go_at_call 72;refine (HQ.out).mono ?_;rintro e w4 ⟨rfl,hb⟩;have BB2:Below W.heap.size W w4:=bstep (by repeat (first|refine Below.setCell ?_ (by simp;try omega) _|refine Below.alloc ?_ (by have:=BB.out.size;simp;try omega) _|refine Below.drew ?_|exact BB.out)) hb;clear BB;have BB:Hid (Below W.heap.size W w4):=BB2;clear HQ;clear BB2 hb))
      all_goals exact bodyPost_ret (results_tmp2 rfl _ _ _) rfl ⟨rfl,(by repeat (first|refine Below.setCell ?_ (by simp;try omega) _|refine Below.alloc ?_ (by have:=BB.out.size;simp;try omega) _|refine Below.drew ?_|exact BB.out))⟩
    case true =>
      have HL:=HL0.out rfl rfl
      have HLH:Hid _:=HL
      clear HL HL0
      show Calls Tryz.prog 21 #[.pointer (some ⟨b,0,none⟩),.agg #[.int .i64 c1,.int .i64 c2],.agg #[.int .i64 a1,.int .i64 a2]] W fun e w'=>e=.returned (.tuple #[.bool p,.int .i64 0])∧Below W.heap.size W w'
      go_enter Tryz.func21,Tryz.ntmps21
      go_upto_region 3 with (first
        | (go_at_call 66;refine (HI.out _ (by repeat (first|refine Below.setCell ?_ (by simp;try omega) _|refine Below.alloc ?_ (by have:=BB.out.size;simp;try omega) _|refine Below.drew ?_|exact BB.out))).mono ?_;rintro e w1 ⟨rfl,hb⟩;have cbd:=kp2 (n:=W.heap.size) hb (by first|omega|(simp;try omega)) (hkeep (halloc1 _ _));(try clear cbB cb0 cb1 cbf cbL cbN);obtain ⟨cbB,cb0,cb1,cbf,cbL,cbN⟩:=cbd;have abd:=kp2 (n:=W.heap.size+1) hb (by first|omega|(simp;try omega)) (halloc2 _ _ (by simp));(try clear abB ab0 ab1 abf abL abN);obtain ⟨abB,ab0,ab1,abf,abL,abN⟩:=abd;have BB2:Below W.heap.size W w1:=bstep (by repeat (first|refine Below.setCell ?_ (by simp;try omega) _|refine Below.alloc ?_ (by have:=BB.out.size;simp;try omega) _|refine Below.drew ?_|exact BB.out)) hb;clear BB;have BB:Hid (Below W.heap.size W w1):=BB2;clear HI;clear BB2 hb)
        | (go_at_call 66;refine (HJ.out _ (by repeat (first|refine Below.setCell ?_ (by simp;try omega) _|refine Below.alloc ?_ (by have:=BB.out.size;simp;try omega) _|refine Below.drew ?_|exact BB.out))).mono ?_;rintro e w2 ⟨rfl,hb⟩;have cbd:=kp2 (n:=W.heap.size) hb (by first|omega|(simp;try omega)) (cbB.out);(try clear cbB cb0 cb1 cbf cbL cbN);obtain ⟨cbB,cb0,cb1,cbf,cbL,cbN⟩:=cbd;have abd:=kp2 (n:=W.heap.size+1) hb (by first|omega|(simp;try omega)) (abB.out);(try clear abB ab0 ab1 abf abL abN);obtain ⟨abB,ab0,ab1,abf,abL,abN⟩:=abd;have BB2:Below W.heap.size W w2:=bstep (by repeat (first|refine Below.setCell ?_ (by simp;try omega) _|refine Below.alloc ?_ (by have:=BB.out.size;simp;try omega) _|refine Below.drew ?_|exact BB.out)) hb;clear BB;have BB:Hid (Below W.heap.size W w2):=BB2;clear HJ;clear BB2 hb))
      go_region_law (first
        | (refine step_call2 rfl 73 callR9all (.tmp 18) (.tmp 19) 28 24 rfl (.pointer (some ⟨b,0,none⟩)) (.agg #[.int .i64 a1,.int .i64 a2]) (by simp [Act.eval]) (by simp [Act.eval]) (HLH.out _ BB.out.drew) ?_;rintro e w3 ⟨⟨vv,rfl,HQ0⟩,hb⟩;refine ⟨_,rfl,?_⟩;have HQ:Hid (Calls Tryz.prog 72 #[vv,.agg #[.int .i64 c1,.int .i64 c2]] w3 fun e2 w2=>e2=.returned (.bool p)∧Below w3.heap.size w3 w2):=HQ0;have cb0x:=(hb.cell (p:=⟨W.heap.size,0,none⟩) cbL).trans cb0;have cb1x:=(hb.cell (p:=⟨W.heap.size,1,none⟩) cbL).trans cb1;clear cb0 cb1;have cb0:=cb0x;have cb1:=cb1x;clear cb0x cb1x;have cbLx:W.heap.size<w3.heap.size:=Nat.lt_of_lt_of_le cbL hb.size;clear cbL;have cbL:=cbLx;clear cbLx;have B3:Hid (Below W.heap.size W w3):=bstep BB.out.drew hb;clear hb HQ0)
        | (refine step_call2 rfl 72 callR9in (.tmp 20) (.tmp 21) 39 24 rfl vv (.agg #[.int .i64 c1,.int .i64 c2]) (by simp [Act.eval]) (by simp [Act.eval]) HQ.out ?_;rintro e w4 ⟨rfl,hb⟩;refine ⟨_,rfl,?_⟩;have B4:Hid (Below W.heap.size W w4):=bstep B3.out hb;clear hb))
      all_goals go_wp2
      all_goals exact bodyPost_ret (results_tmp2 rfl _ _ _) rfl ⟨rfl,B4.out⟩
theorem r9all_any {b:Nat} {cs:List Cls} {ps:List Plc} {W:World} (h:RAt b cs W) (ht:TwW cs ps) (hJ:WJ ps) (hS:SndI ps) (hU:UnqM ps) (hz:∀ c∈cs,c.nm.size≤maxLen) (c i:Int) (x:HM) (hx:methI ps c i=some x):Calls Tryz.prog 73 #[.pointer (some ⟨b,0,none⟩),.agg #[.int .i64 c,.int .i64 i]] W fun e w'=>(∃ v A,e=.returned v∧w'.ownsRow W.heap.size 24 2 v A.length (flatD A)∧A.length≤300∧(∀ y,y∈A↔Ov ps (c,i) y)∧A.Nodup)∧Below W.heap.size W w':=by
  cases hst:hasI x.fl 8 with
  | false=>exact r9all_c h ht hJ hS hU hz c i x hx hst
  | true =>
    refine (r9all_no h ht c i x hx hst).mono fun e w' zz=>⟨⟨_,[],zz.1,World.ownsRow_nil _ _ _ _,by simp,fun y=>⟨fun hy=>(by cases hy),fun hy=>?_⟩,List.nodup_nil⟩,zz.2⟩
    have h0:=ov_st hy
    rw [stI] at h0
    simp only [hx] at h0
    exact absurd (show hasI x.fl 8=false from h0) (by rw [hst];decide)
theorem r9Over_c {b:Nat} {cs:List Cls} {ps:List Plc} {W:World} (h:RAt b cs W) (ht:TwW cs ps) (hJ:WJ ps) (hS:SndI ps) (hU:UnqM ps) (hz:∀ c∈cs,c.nm.size≤maxLen) (c1 c2 a1 a2:Int):Calls Tryz.prog 21 #[.pointer (some ⟨b,0,none⟩),.agg #[.int .i64 c1,.int .i64 c2],.agg #[.int .i64 a1,.int .i64 a2]] W fun e w'=>e=.returned (.tuple #[.bool (ovrI ps (c1,c2) (a1,a2)).1,.int .i64 (ovrI ps (c1,c2) (a1,a2)).2])∧Below W.heap.size W w':=by
  refine (r9Ow W b c1 c2 a1 a2 (methI ps c1 c2).isSome (methI ps a1 a2).isSome (ovrI ps (c1,c2) (a1,a2)).1 (fun w hb=>r9is_c (h.below hb) ht c1 c2) (fun w hb=>r9is_c (h.below hb) ht a1 a2) (fun h1 h2 w hb=>?_)).mono fun e w' zz=>⟨?_,zz.2⟩
  · obtain ⟨mc,hc⟩:=Option.isSome_iff_exists.1 h1
    obtain ⟨ma,ha⟩:=Option.isSome_iff_exists.1 h2
    obtain ⟨_,hov⟩:=ovr_iff ht.wi hU (a:=(a1,a2)) (c:=(c1,c2)) ha hc
    refine (r9all_any (h.below hb) ht hJ hS hU hz a1 a2 ma ha).mono fun e w' zz=>?_
    obtain ⟨⟨v,A,e1,e2,e3,e4,_⟩,e5⟩:=zz
    refine ⟨⟨v,e1,?_⟩,e5⟩
    have:=r9in_c A (by omega) v e2 c1 c2
    have eq:(A.any fun x=>(x.1 == c1)&&(x.2 == c2))=(ovrI ps (c1,c2) (a1,a2)).1:=by
      rw [Bool.eq_iff_iff,hov,← e4,List.any_eq_true]
      constructor
      · rintro ⟨y,hy,h3⟩
        simp only [Bool.and_eq_true,beq_iff_eq] at h3
        have:y=(c1,c2):=Prod.ext h3.1 h3.2
        rw [← this];exact hy
      · intro h3
        exact ⟨_,h3,by simp⟩
    rw [eq] at this
    exact this
  · rw [zz.1]
    cases hc:methI ps c1 c2 with
    | none=>simp [ovrI,hc]
    | some mc =>
      cases ha:methI ps a1 a2 with
      | none=>simp [ovrI,hc,ha]
      | some ma=>simp [ovrI,hc,ha]
end Go.Proofs.YtjlfnelihbdhjaaGreat
