import Derived.Test.YtlohdfpinmdljaaGreatDoorAcC
set_option maxRecDepth 100000
namespace Go.Proofs.YtlohdfpinmdljaaGreatDoor
open Go.RowKit Go.Maps
theorem eqPkA (a b:Int) (s t:ByteArray) (w:World):(Op.equal 410 (.agg #[.int .i64 a,.string s]) (.agg #[.int .i64 b,.string t])).run Tryz.prog w=.ok ((a == b)&&(s == t)) w:=by
  have h:(Op.equalIn (9997+1+1+1) 410 (.agg #[.int .i64 a,.string s]) (.agg #[.int .i64 b,.string t])).run Tryz.prog w=.ok ((a == b)&&(s == t)) w:=by
    rw [Op.equalIn]
    simp [run_underlying Tryz.underlying410,go_sem,part,eqS,eqN]
    generalize (s == t)=y
    by_cases h1:a=b <;> cases y <;> simp [h1]
  exact h
set_option maxHeartbeats 1000000 in
theorem aSame_c {b:Nat} {ps:List Plc} {W:World} (h:WAt b ps W) (hB:∀ q∈ps,PlcB q) (x y:Nat) (p q:Plc) (hx:ps[x]?=some p) (hy:ps[y]?=some q):Calls Tryz.prog 261 #[.pointer (some ⟨b,0,none⟩),.int .i64 (x:Int),.int .i64 (y:Int)] W fun e w'=>e=.returned (.bool (samePk p q))∧Below W.heap.size W w':=by
  have HX:Hid (∀ i w,Below W.heap.size W w→i=(x:Int)→Calls Tryz.prog 305 #[.pointer (some ⟨b,0,none⟩),.int .i64 i] w fun e w''=>e=.returned (.agg #[.int .i64 p.c.ld,.string (pkB p.c.nm)])∧Below W.heap.size W w''):=fun i w hb hi=>by
    rw [hi];exact (aPkg_c (h.below hb) x p hx (hB p (List.mem_of_getElem? hx))).mono fun e w'' zz=>⟨zz.1,bstep hb zz.2⟩
  have HY:Hid (∀ i w,Below W.heap.size W w→i=(y:Int)→Calls Tryz.prog 305 #[.pointer (some ⟨b,0,none⟩),.int .i64 i] w fun e w''=>e=.returned (.agg #[.int .i64 q.c.ld,.string (pkB q.c.nm)])∧Below W.heap.size W w''):=fun i w hb hi=>by
    rw [hi];exact (aPkg_c (h.below hb) y q hy (hB q (List.mem_of_getElem? hy))).mono fun e w'' zz=>⟨zz.1,bstep hb zz.2⟩
  have HR2:Hid ((p.c.ld == q.c.ld&&pkB p.c.nm == pkB q.c.nm)=samePk p q):=by rw [Hid,pkB,pkB,beqB];rfl
  generalize samePk p q=R at *
  generalize pkB p.c.nm=s1 at *
  generalize pkB q.c.nm=s2 at *
  have EQ:∀ w,(Op.equal 410 (.agg #[.int .i64 p.c.ld,.string s1]) (.agg #[.int .i64 q.c.ld,.string s2])).run Tryz.prog w=.ok R w:=fun w=>by rw [eqPkA,HR2.out]
  have G1:∀ w,(eqGuard .eql 410 (.tmp 9) (.tmp 12) (.agg #[.int .i64 p.c.ld,.string s1]) (.agg #[.int .i64 q.c.ld,.string s2])).run Tryz.prog w=.ok () w:=fun w=>by
    simp [eqGuard,go_sem]
  have G2:∀ w,(binOp .eql 410 (.agg #[.int .i64 p.c.ld,.string s1]) (.agg #[.int .i64 q.c.ld,.string s2])).run Tryz.prog w=.ok (.bool R) w:=fun w=>by
    simp [binOp,EQ,go_sem]
  clear HR2 EQ h hB hx hy
  go_enter Tryz.func261,Tryz.ntmps261
  go_wp2_with (first
    | (go_at_call 305;refine (HX.out _ _ (Below.refl _ _) (by rfl)).mono ?_;rintro e w1 ⟨rfl,hb⟩;have B1:Hid (Below W.heap.size W w1):=hb;clear hb HX)
    | (go_at_call 305;refine (HY.out _ _ B1.out (by rfl)).mono ?_;rintro e w2 ⟨rfl,hb⟩;have B2:Hid (Below W.heap.size W w2):=hb;clear hb HY))
  exact bodyPost_ret (results_tmp rfl _ _ _) rfl ⟨rfl,B2.out⟩
def clsO (q p:Plc):Bool:=(openI q.c.fl == 1)||samePk q p
set_option maxHeartbeats 1000000 in
theorem aCls_c {b:Nat} {ps:List Plc} {W:World} (h:WAt b ps W) (hB:∀ q∈ps,PlcB q) (d c:Nat) (p q:Plc) (hd:ps[d]?=some p) (hc:ps[c]?=some q):Calls Tryz.prog 304 #[.pointer (some ⟨b,0,none⟩),.int .i64 (d:Int),.int .i64 (c:Int)] W fun e w'=>e=.returned (.bool (clsO q p))∧Below W.heap.size W w':=by
  have HC:Hid (∀ w,Below W.heap.size W w→Calls Tryz.prog 218 #[.pointer (some ⟨b,0,none⟩),.int .i64 (c:Int)] w fun e w'=>∃ vi vm qm,e=.returned (.tuple #[.agg #[.string q.c.nm,.string q.c.su,vi,.int .i64 q.c.fl,.int .i64 q.c.ld,vm],.int .i64 0])∧OwnC w' w.heap.size vi q.c.ni q.c.xi vm qm∧qm.map Prod.fst=q.c.ms∧Below w.heap.size w w'):=fun w hb=>by
    obtain ⟨N,mb,vp,pv,h⟩:=h.below hb
    exact class_yes N b mb ps vp pv c q w h hc (hB q (List.mem_of_getElem? hc))
  have HO:Hid (∀ w:World,Calls Tryz.prog 260 #[.int .i64 q.c.fl] w fun e w'=>e=.returned (.int .i64 (openI q.c.fl))∧w'=w):=fun w=>open_c q.c.fl w
  have HS:Hid (∀ w,Below W.heap.size W w→Calls Tryz.prog 261 #[.pointer (some ⟨b,0,none⟩),.int .i64 (c:Int),.int .i64 (d:Int)] w fun e w'=>e=.returned (.bool (samePk q p))∧Below W.heap.size W w'):=fun w hb=>(aSame_c (h.below hb) hB c d q p hc hd).mono fun e w' zz=>⟨zz.1,bstep hb zz.2⟩
  have HR:Hid (clsO q p=((openI q.c.fl == 1)||samePk q p)):=rfl
  generalize clsO q p=R at *
  generalize samePk q p=sp at *
  generalize openI q.c.fl=op at *
  clear h hB hd hc
  by_cases h1:op=1
  · have HR:Hid (R=true):=by rw [Hid,HR.out,h1];rfl
    subst h1
    go_enter Tryz.func304,Tryz.ntmps304
    go_wp2_with (first
      | (go_at_call 218;refine (HC.out _ (by repeat (first|exact Below.refl _ _|refine Below.setCell ?_ (by simp;try omega) _|refine Below.alloc ?_ (by simp;try omega) _|refine Below.drew ?_))).mono ?_;rintro e w1 ⟨vi,vm,qm,rfl,hown,_,hb⟩;obtain ⟨a1,c1,rfl⟩:=ownv hown.ifs;obtain ⟨a2,c2,rfl⟩:=ownv hown.ms;have B1:Hid (Below W.heap.size W w1):=bstep (by repeat (first|exact Below.refl _ _|refine Below.setCell ?_ (by simp;try omega) _|refine Below.alloc ?_ (by simp;try omega) _|refine Below.drew ?_)) hb;clear hown hb HC)
      | (go_at_call 260;refine (HO.out _).mono ?_;rintro e w9 ⟨rfl,hw9⟩;rw [hw9];clear hw9 w9))
    exact bodyPost_ret (results_tmp rfl _ _ _) rfl ⟨by rw [HR.out];rfl,B1.out.alloc B1.out.size _⟩
  · have HR:Hid (R=sp):=by rw [Hid,HR.out];simp [h1]
    cases sp
    all_goals
      go_enter Tryz.func304,Tryz.ntmps304
      go_wp2_with (first
        | (go_at_call 218;refine (HC.out _ (by repeat (first|exact Below.refl _ _|refine Below.setCell ?_ (by simp;try omega) _|refine Below.alloc ?_ (by simp;try omega) _|refine Below.drew ?_))).mono ?_;rintro e w1 ⟨vi,vm,qm,rfl,hown,_,hb⟩;obtain ⟨a1,c1,rfl⟩:=ownv hown.ifs;obtain ⟨a2,c2,rfl⟩:=ownv hown.ms;have B1:Hid (Below W.heap.size W w1):=bstep (by repeat (first|exact Below.refl _ _|refine Below.setCell ?_ (by simp;try omega) _|refine Below.alloc ?_ (by simp;try omega) _|refine Below.drew ?_)) hb;clear hown hb HC)
        | (go_at_call 260;refine (HO.out _).mono ?_;rintro e w9 ⟨rfl,hw9⟩;rw [hw9];clear hw9 w9)
        | (go_at_call 261;refine (HS.out _ (B1.out.alloc B1.out.size _)).mono ?_;rintro e w2 ⟨rfl,hb⟩;have B2:Hid (Below W.heap.size W w2):=hb;clear hb HS))
      exact bodyPost_ret (results_tmp rfl _ _ _) rfl ⟨by rw [HR.out];rfl,B2.out⟩
theorem inNs_iff (ps:List Plc) (l:List Int):inNs ps.length l=l.all fun i=>(plcI ps i).isSome:=by
  rw [inNs]
  congr 1
  funext i
  rcases plcI_cases ps i with ⟨h1,h2⟩|⟨k,q,rfl,h2,h1⟩
  · rw [h1]
    by_cases h0:0≤i
    · have:¬ i<(ps.length:Int):=fun h=>h2 ⟨h0,h⟩
      simp [this]
    · simp [h0]
  · rw [h1]
    have:=(List.getElem?_eq_some_iff.1 h2).1
    simp;omega
theorem retB {a b:Bool} (h:a=b):Ending.returned (.bool a)=Ending.returned (.bool b):=by rw [h]
set_option maxHeartbeats 1000000 in
theorem aBelow_c {b:Nat} {ps:List Plc} {W:World} (h:WAt b ps W) (hi:WI ps) (d c n:Int) (st:Bool):Calls Tryz.prog 262 #[.pointer (some ⟨b,0,none⟩),.int .i64 d,.int .i64 c,.int .i64 n,.bool st] W fun e w'=>e=.returned (.bool (extI ps d c&&!ifcI ps c&&(st||extI ps n d||extI ps d n)))∧Below W.heap.size W w':=by
  have HE:Hid (∀ i j w,Below W.heap.size W w→Calls Tryz.prog 219 #[.pointer (some ⟨b,0,none⟩),.int .i64 i,.int .i64 j] w fun e w'=>e=.returned (.bool (extI ps i j))∧Below W.heap.size W w'):=fun i j w hb=>(extends_c (h.below hb) hi i j).mono fun e w' zz=>⟨zz.1,bstep hb zz.2⟩
  have HI:Hid (∀ i w,Below W.heap.size W w→Calls Tryz.prog 61 #[.pointer (some ⟨b,0,none⟩),.int .i64 i] w fun e w'=>e=.returned (.bool (ifcI ps i))∧Below W.heap.size W w'):=fun i w hb=>(isIface_c (h.below hb) i).mono fun e w' zz=>⟨zz.1,bstep hb zz.2⟩
  have HR:Hid ((extI ps d c&&!ifcI ps c&&(st||extI ps n d||extI ps d n))=(extI ps d c&&!ifcI ps c&&(st||extI ps n d||extI ps d n))):=rfl
  generalize hRR:(extI ps d c&&!ifcI ps c&&(st||extI ps n d||extI ps d n))=R
  have HRR:Hid (R=(extI ps d c&&!ifcI ps c&&(st||extI ps n d||extI ps d n))):=hRR.symm
  clear hRR HR
  generalize extI ps=E at *
  generalize ifcI ps=F at *
  clear h hi
  have BB:Hid (Below W.heap.size W W):=Below.refl _ _
  go_enter Tryz.func262,Tryz.ntmps262
  go_wp2_with (first
    | (go_at_call 219;refine (HE.out _ _ _ BB.out).mono ?_;rintro e w1 ⟨rfl,hb⟩;clear BB;have BB:Hid (Below W.heap.size W w1):=hb;clear hb)
    | (go_at_call 61;refine (HI.out _ _ BB.out).mono ?_;rintro e w1 ⟨rfl,hb⟩;clear BB;have BB:Hid (Below W.heap.size W w1):=hb;clear hb))
  all_goals go_ret
  all_goals exact ⟨retB (by rw [HRR.out];simp [*]),BB.out⟩
def mOpen (ps:List Plc) (d c n f:Int) (sp:Bool):Bool :=
  if openI f=1 then true else if openI f=2 then c == d else if sp then true else if openI f=4 then extI ps d c&&!ifcI ps c&&(hasI f 8||extI ps n d||extI ps d n) else false
theorem open_cases (f:Int):openI f=1∨openI f=2∨openI f=4∨openI f=0:=by
  unfold openI
  split
  · exact .inl rfl
  · split
    · exact .inr (.inr (.inl rfl))
    · split
      · exact .inr (.inl rfl)
      · exact .inr (.inr (.inr rfl))
set_option maxHeartbeats 1000000 in
theorem aMth_c {b:Nat} {ps:List Plc} {W:World} (h:WAt b ps W) (hi:WI ps) (d c:Nat) (n f:Int) (p q:Plc) (hd:ps[d]?=some p) (hc:ps[c]?=some q):Calls Tryz.prog 204 #[.pointer (some ⟨b,0,none⟩),.int .i64 (d:Int),.int .i64 (c:Int),.int .i64 n,.int .i64 f] W fun e w'=>e=.returned (.bool (mOpen ps d c n f (samePk q p)))∧Below W.heap.size W w':=by
  have HO:Hid (∀ w:World,Calls Tryz.prog 260 #[.int .i64 f] w fun e w'=>e=.returned (.int .i64 (openI f))∧w'=w):=fun w=>open_c f w
  have HS:Hid (∀ w,Below W.heap.size W w→Calls Tryz.prog 261 #[.pointer (some ⟨b,0,none⟩),.int .i64 (c:Int),.int .i64 (d:Int)] w fun e w'=>e=.returned (.bool (samePk q p))∧Below W.heap.size W w'):=fun w hb=>(aSame_c (h.below hb) hi.pb c d q p hc hd).mono fun e w' zz=>⟨zz.1,bstep hb zz.2⟩
  have HL:Hid (∀ st w,Below W.heap.size W w→Calls Tryz.prog 262 #[.pointer (some ⟨b,0,none⟩),.int .i64 (d:Int),.int .i64 (c:Int),.int .i64 n,.bool st] w fun e w'=>e=.returned (.bool (extI ps d c&&!ifcI ps c&&(st||extI ps n d||extI ps d n)))∧Below W.heap.size W w'):=fun st w hb=>(aBelow_c (h.below hb) hi d c n st).mono fun e w' zz=>⟨zz.1,bstep hb zz.2⟩
  have HR:Hid (mOpen ps d c n f (samePk q p)=(if openI f=1 then true else if openI f=2 then (c:Int) == (d:Int) else if samePk q p then true else if openI f=4 then extI ps d c&&!ifcI ps c&&(hasI f 8||extI ps n d||extI ps d n) else false)):=rfl
  generalize mOpen ps d c n f (samePk q p)=R at *
  generalize samePk q p=sp at *
  have h8:hasI f 8=(bits .and .i64 f 8 != 0):=rfl
  rw [h8] at HR
  clear h8
  have hop:=open_cases f
  generalize openI f=op at *
  generalize extI ps (d:Int) (c:Int)=e1 at *
  generalize ifcI ps (c:Int)=i1 at *
  generalize extI ps n (d:Int)=e2 at *
  generalize extI ps (d:Int) n=e3 at *
  clear h hi hd hc
  have BB:Hid (Below W.heap.size W W):=Below.refl _ _
  rcases hop with rfl|rfl|rfl|rfl
  all_goals cases sp
  all_goals
    go_enter Tryz.func204,Tryz.ntmps204
    go_wp2_with (first
      | (go_at_call 260;refine (HO.out _).mono ?_;rintro e w9 ⟨rfl,hw9⟩;rw [hw9];clear hw9 w9)
      | (go_at_call 261;refine (HS.out _ BB.out).mono ?_;rintro e w1 ⟨rfl,hb⟩;clear BB;have BB:Hid (Below W.heap.size W w1):=hb;clear hb)
      | (go_at_call 262;refine (HL.out _ _ BB.out).mono ?_;rintro e w2 ⟨rfl,hb⟩;clear BB;have BB:Hid (Below W.heap.size W w2):=hb;clear hb))
    all_goals go_ret
    all_goals exact ⟨retB (by rw [HR.out];simp [bne]),BB.out⟩
def moI (ps:List Plc) (d c i n:Int):Value:=match plcI ps d,plcI ps n,plcI ps c,methI ps c i with
  | some p,some _,some q,some m=>.tuple #[.bool (mOpen ps d c n m.fl (samePk q p)),.int .i64 0]
  | _,_,_,_=>.tuple #[.bool false,.int .i64 3]
theorem meth_plc {ps:List Plc} {c i:Int} {m:HM} (h:methI ps c i=some m):∃ (k:Nat) (q:Plc),c=(k:Int)∧ps[k]?=some q∧plcI ps c=some q∧methP q i=some m:=by
  rcases plcI_cases ps c with ⟨h1,_⟩|⟨k,q,rfl,h2,h1⟩
  · rw [methI,h1] at h;cases h
  · rw [methI,h1] at h
    exact ⟨k,q,rfl,h2,h1,h⟩
set_option maxHeartbeats 1000000 in
theorem methodOpen_c {b:Nat} {ps:List Plc} {W:World} (h:WAt b ps W) (hi:WI ps) (d c i n:Int):Calls Tryz.prog 135 #[.pointer (some ⟨b,0,none⟩),.int .i64 d,.agg #[.int .i64 c,.int .i64 i],.int .i64 n] W fun e w'=>e=.returned (moI ps d c i n)∧Below W.heap.size W w':=by
  have HC:Hid (∀ (w:World) (v:Value),Below W.heap.size W w→Rds w v 2 1 [.int .i64 d,.int .i64 n]→Calls Tryz.prog 203 #[.pointer (some ⟨b,0,none⟩),v] w fun e w'=>e=.returned (.int .i64 (if (plcI ps d).isSome&&(plcI ps n).isSome then 0 else 3))∧Below w.heap.size w w'):=fun w v hb hv=>(check_c (h.below hb) v [d,n] hv (by simp)).mono fun e w' zz=>⟨by rw [zz.1,inNs_iff];simp,zz.2⟩
  have HM:Hid (∀ w,Below W.heap.size W w→Calls Tryz.prog 84 #[.pointer (some ⟨b,0,none⟩),.agg #[.int .i64 c,.int .i64 i]] w fun e w'=>MthR w.heap.size (methI ps c i) e w'∧Below w.heap.size w w'):=fun w hb=>method_c (h.below hb) hi.pb c i
  cases hdn:(plcI ps d).isSome&&(plcI ps n).isSome with
  | false =>
    have e:moI ps d c i n=.tuple #[.bool false,.int .i64 3]:=by
      unfold moI
      cases h1:plcI ps d with
      | none=>rfl
      | some p=>cases h2:plcI ps n with
        | none=>rfl
        | some q=>rw [h1,h2] at hdn;cases hdn
    rw [e]
    rw [hdn] at HC
    simp only [Bool.false_eq_true,if_false] at HC
    clear h e hdn HM
    go_enter Tryz.func135,Tryz.ntmps135
    go_wp2_with (first
      | (go_at_call 203;refine (HC.out _ _ (by repeat (first|exact Below.refl _ _|refine Below.setCell ?_ (by simp;try omega) _|refine Below.alloc ?_ (by simp;try omega) _|refine Below.drew ?_)) (rds_at _ _ (by simp) _ 3 2 1 rfl (by decide))).mono ?_;rintro e w1 ⟨rfl,hb⟩;have B1:Hid (Below W.heap.size W w1):=bstep (by repeat (first|exact Below.refl _ _|refine Below.setCell ?_ (by simp;try omega) _|refine Below.alloc ?_ (by simp;try omega) _|refine Below.drew ?_)) hb;clear hb HC))
    exact bodyPost_ret (results_tmp2 rfl _ _ _) rfl ⟨rfl,B1.out⟩
  | true =>
    rw [hdn] at HC
    simp only [if_true] at HC
    cases hm:methI ps c i with
    | none =>
      have e:moI ps d c i n=.tuple #[.bool false,.int .i64 3]:=by
        unfold moI;rw [hm]
        cases plcI ps d <;> cases plcI ps n <;> cases plcI ps c <;> rfl
      rw [e]
      rw [hm] at HM
      clear h e hdn hm
      go_enter Tryz.func135,Tryz.ntmps135
      go_wp2_with (first
        | (go_at_call 203;refine (HC.out _ _ (by repeat (first|exact Below.refl _ _|refine Below.setCell ?_ (by simp;try omega) _|refine Below.alloc ?_ (by simp;try omega) _|refine Below.drew ?_)) (rds_at _ _ (by simp) _ 3 2 1 rfl (by decide))).mono ?_;rintro e w1 ⟨rfl,hb⟩;have h0:=(hb.block W.heap.size (by simp;omega)).trans (heap_alloc2_old W _ _);have r0:=cell_of_row w1 W.heap.size 0 _ _ _ h0;have r1:=cell_of_row w1 W.heap.size 1 _ _ _ h0;simp only [List.getElem?_toArray,List.getElem?_cons_zero,List.getElem?_cons_succ] at r0 r1;have B1:Hid (Below W.heap.size W w1):=bstep (by repeat (first|exact Below.refl _ _|refine Below.setCell ?_ (by simp;try omega) _|refine Below.alloc ?_ (by simp;try omega) _|refine Below.drew ?_)) hb;clear hb HC h0)
        | (go_at_call 84;refine (HM.out _ B1.out).mono ?_;rintro e w2 ⟨hr,hb⟩;simp only [MthR,noM] at hr;subst hr;have B2:Hid (Below W.heap.size W w2):=bstep B1.out hb;clear hb HM))
      exact bodyPost_ret (results_tmp2 rfl _ _ _) rfl ⟨rfl,B2.out.alloc B2.out.size _⟩
    | some m =>
      obtain ⟨k,q,rfl,hq,hqI,hmp⟩:=meth_plc hm
      obtain ⟨j,p,rfl,hp,hpI⟩:∃ (j:Nat) (p:Plc),d=(j:Int)∧ps[j]?=some p∧plcI ps d=some p:=by
        rcases plcI_cases ps d with ⟨h1,_⟩|⟨j,p,rfl,h2,h1⟩
        · rw [h1] at hdn;cases hdn
        · exact ⟨j,p,rfl,h2,h1⟩
      have e:moI ps j k i n=.tuple #[.bool (mOpen ps j k n m.fl (samePk q p)),.int .i64 0]:=by
        unfold moI
        rw [hm,hpI,hqI]
        cases h2:plcI ps n with
        | none=>rw [h2,Bool.and_comm] at hdn;cases hdn
        | some _=>rfl
      rw [e]
      rw [hm] at HM
      have HI:Hid (∀ w,Below W.heap.size W w→Calls Tryz.prog 204 #[.pointer (some ⟨b,0,none⟩),.int .i64 (j:Int),.int .i64 (k:Int),.int .i64 n,.int .i64 m.fl] w fun e w'=>e=.returned (.bool (mOpen ps j k n m.fl (samePk q p)))∧Below W.heap.size W w'):=fun w hb=>(aMth_c (h.below hb) hi j k n m.fl p q hp hq).mono fun e w' zz=>⟨zz.1,bstep hb zz.2⟩
      generalize mOpen ps j k n m.fl (samePk q p)=R at *
      clear h e hdn hm hq hqI hmp hp hpI
      go_enter Tryz.func135,Tryz.ntmps135
      go_wp2_with (first
        | (go_at_call 203;refine (HC.out _ _ (by repeat (first|exact Below.refl _ _|refine Below.setCell ?_ (by simp;try omega) _|refine Below.alloc ?_ (by simp;try omega) _|refine Below.drew ?_)) (rds_at _ _ (by simp) _ 3 2 1 rfl (by decide))).mono ?_;rintro e w1 ⟨rfl,hb⟩;have h0:=(hb.block W.heap.size (by simp;omega)).trans (heap_alloc2_old W _ _);have r0:=cell_of_row w1 W.heap.size 0 _ _ _ h0;have r1:=cell_of_row w1 W.heap.size 1 _ _ _ h0;simp only [List.getElem?_toArray,List.getElem?_cons_zero,List.getElem?_cons_succ] at r0 r1;have hl0:W.heap.size<w1.heap.size:=(Array.getElem?_eq_some_iff.1 h0).1;have B1:Hid (Below W.heap.size W w1):=bstep (by repeat (first|exact Below.refl _ _|refine Below.setCell ?_ (by simp;try omega) _|refine Below.alloc ?_ (by simp;try omega) _|refine Below.drew ?_)) hb;clear hb HC h0)
        | (go_at_call 84;refine (HM.out _ B1.out).mono ?_;rintro e w2 ⟨hr,hb⟩;obtain ⟨vv,rfl,hown⟩:=hr;obtain ⟨a1,c1,rfl⟩:=ownv hown;replace r0:=(hb.cell (p:=⟨W.heap.size,0,none⟩) hl0).trans r0;replace r1:=(hb.cell (p:=⟨W.heap.size,1,none⟩) hl0).trans r1;have hl2:W.heap.size<w2.heap.size:=Nat.lt_of_lt_of_le hl0 hb.size;have hn2:¬ W.heap.size=w2.heap.size:=(by omega);have B2:Hid (Below W.heap.size W w2):=bstep B1.out hb;clear hb HM hown)
        | (go_at_call 204;refine (HI.out _ (B2.out.alloc B2.out.size _)).mono ?_;rintro e w3 ⟨rfl,hb⟩;have B3:Hid (Below W.heap.size W w3):=hb;clear hb HI))
      exact bodyPost_ret (results_tmp2 rfl _ _ _) rfl ⟨rfl,B3.out⟩
theorem kp2 {V w:World} {N n:Nat} {t:TypeId} {a0 a1:Value} (hb:Below N V w) (hn:n<N:=by first|omega|(simp;try omega)) (h:V.heap[n]?=some (.cells #[a0,a1] t (0,0)):=by first|exact Hid.out (by assumption)|exact hkeep (Hid.out (by assumption))|exact hkeep (hkeep (Hid.out (by assumption)))|exact halloc2 _ _ rfl|exact hkeep (halloc2 _ _ rfl)|exact hkeep (hkeep (halloc2 _ _ rfl))|exact halloc2 _ _ (by simp;done)):Hid (w.heap[n]?=some (.cells #[a0,a1] t (0,0)))∧w.cell? ⟨n,0,none⟩=some a0∧w.cell? ⟨n,1,none⟩=some a1∧(∀ k,w.frozen? ⟨n,k,none⟩=false)∧n<w.heap.size∧¬ n=w.heap.size:=by
  have h2:=(hb.block n hn).trans h
  obtain ⟨c0,c1,f,l⟩:=rw2 h2
  exact ⟨h2,c0,c1,f,l,by omega⟩
theorem kp4 {V w:World} {N n:Nat} {t:TypeId} {a0 a1 a2 a3:Value} (hb:Below N V w) (hn:n<N:=by first|omega|(simp;try omega)) (h:V.heap[n]?=some (.cells #[a0,a1,a2,a3] t (0,0)):=by first|exact Hid.out (by assumption)|exact hkeep (Hid.out (by assumption))|exact hkeep (hkeep (Hid.out (by assumption)))|exact halloc2 _ _ rfl|exact hkeep (halloc2 _ _ rfl)|exact hkeep (hkeep (halloc2 _ _ rfl))|exact halloc2 _ _ (by simp;done)):Hid (w.heap[n]?=some (.cells #[a0,a1,a2,a3] t (0,0)))∧w.cell? ⟨n,0,none⟩=some a0∧w.cell? ⟨n,1,none⟩=some a1∧w.cell? ⟨n,2,none⟩=some a2∧w.cell? ⟨n,3,none⟩=some a3∧(∀ k,w.frozen? ⟨n,k,none⟩=false)∧n<w.heap.size∧¬ n=w.heap.size:=by
  have h2:=(hb.block n hn).trans h
  obtain ⟨c0,c1,c2,c3,f,l⟩:=rw4 h2
  exact ⟨h2,c0,c1,c2,c3,f,l,by omega⟩
def upR (ps:List Plc) (nm ds:ByteArray):List Nat→(Int×Int)×Int
  | []=>((0,0),6)
  | i::r=>if (ownR ps nm ds (i:Int)).2=0 then ((ownR ps nm ds (i:Int)).1,0) else upR ps nm ds r
theorem upR_at {ps:List Plc} {nm ds:ByteArray} {l:List Nat} {j i:Nat} (h:l[j]?=some i):upR ps nm ds (l.drop j)=if (ownR ps nm ds (i:Int)).2=0 then ((ownR ps nm ds (i:Int)).1,0) else upR ps nm ds (l.drop (j+1)):=by
  obtain ⟨h1,h2⟩:=List.getElem?_eq_some_iff.1 h
  rw [List.drop_eq_getElem_cons h1,h2,upR]
theorem chL_len {ps:List Plc} (hi:WI ps) {k:Nat} (hk:k<ps.length):(chL (ps.map nd) k).length≤1000000:=by
  have:=ch_len hi.wo k (by simpa using hk)
  have:=hi.hi
  omega
set_option maxHeartbeats 4000000 in
theorem up_yes {b:Nat} {ps:List Plc} {W:World} (h:WAt b ps W) (hi:WI ps) (k:Nat) (q:Plc) (hq:ps[k]?=some q) (nm ds:ByteArray):Calls Tryz.prog 259 #[.pointer (some ⟨b,0,none⟩),.int .i64 (k:Int),.string nm,.string ds] W fun e w'=>e=.returned (idE (upR ps nm ds (chL (ps.map nd) k)))∧Below W.heap.size W w':=by
  have HW0:Hid (WAt b ps W):=h
  have HPB:Hid (∀ q∈ps,PlcB q):=hi.pb
  have hKb:=chL_len hi (List.getElem?_eq_some_iff.1 hq).1
  have HC:Hid (∀ w,Below W.heap.size W w→Calls Tryz.prog 216 #[.pointer (some ⟨b,0,none⟩),.int .i64 (k:Int)] w fun e w'=>∃ v,e=.returned (.tuple #[v,.int .i64 0])∧w'.ownsRow w.heap.size 3 1 v (chL (ps.map nd) k).length ((chL (ps.map nd) k).map numV)∧Below w.heap.size w w'):=fun w hb=>by
    obtain ⟨N,mb,vp,pv,h⟩:=h.below hb
    exact chain_yes N b mb ps vp pv k (List.getElem?_eq_some_iff.1 hq).1 hi.wo hi.hi w h
  generalize chL (ps.map nd) k=l at *
  obtain ⟨R,hR⟩:∃ R,upR ps nm ds l=R:=⟨_,rfl⟩
  have HR:Hid (upR ps nm ds l=R):=hR
  rw [hR]
  obtain ⟨K,hK⟩:∃ K,l.length=K:=⟨_,rfl⟩
  have HK:Hid (l.length=K):=hK
  rw [hK] at hKb HC
  clear h hi hq hR hK
  go_enter Tryz.func259,Tryz.ntmps259
  go_wp2_with (first
    | (go_at_call 216;refine (HC.out _ (by repeat (first|exact Below.refl _ _|refine Below.setCell ?_ (by simp;try omega) _|refine Below.alloc ?_ (by simp;try omega) _|refine Below.drew ?_))).mono ?_;rintro e w1 ⟨v,rfl,ho,hb⟩;obtain ⟨ca,cc,rfl⟩:=ownv ho;have d1:w1.heap[W.heap.size]?=some (.cells #[.int .i64 0,.int .i64 0] 138 (0,0)):=(hb.block W.heap.size (by first|omega|(simp;try omega))).trans (by first|exact halloc2 _ _ rfl|exact heap_alloc2_old W _ _|exact RB.out|exact hkeep RB.out|exact hkeep (hkeep RB.out)|exact hkeep (heap_alloc2_old W _ _));(try clear RB z0 z1 f0 f1 hL9 hN9);have RB:Hid (w1.heap[W.heap.size]?=some (.cells #[.int .i64 0,.int .i64 0] 138 (0,0))):=d1;have z0:w1.cell? ⟨W.heap.size,0,none⟩=some (.int .i64 0):=(cell_of_row w1 W.heap.size 0 _ _ _ d1).trans rfl;have z1:w1.cell? ⟨W.heap.size,1,none⟩=some (.int .i64 0):=(cell_of_row w1 W.heap.size 1 _ _ _ d1).trans rfl;have f0:=frozen_of_row w1 W.heap.size 0 _ _ d1;have f1:=frozen_of_row w1 W.heap.size 1 _ _ d1;have hL9:W.heap.size<w1.heap.size:=(Array.getElem?_eq_some_iff.1 d1).1;have hN9:¬ W.heap.size=w1.heap.size:=(by omega);clear d1;have O1:Hid (w1.ownsRow W.heap.size 3 1 (.slice ca K cc) K (l.map numV)):=Go.Joins.ownsRow_le ho (by simp;try omega);have B1:Hid (Below W.heap.size W w1):=bstep (by repeat (first|exact Below.refl _ _|refine Below.setCell ?_ (by simp;try omega) _|refine Below.alloc ?_ (by simp;try omega) _|refine Below.drew ?_)) hb;have HW1:Hid (WAt b ps w1):=HW0.out.below B1.out;clear ho hb HC))
  go_loopw [28] (fun kv wr=>∃ (j:Nat),kv=.int .i64 j∧j≤K∧Hid (upR ps nm ds (l.drop j)=R)∧Hid (Below w1.heap.size w1 wr)) (fun kv _=>K - (intOf kv).toNat)
  case atStart=>exact ⟨0,rfl,Nat.zero_le _,HR,Below.refl _ _⟩
  case round =>
    obtain ⟨j,rfl,hj,hU,hB⟩:=hrel
    have hb:=hB.out
    have d1:wr.heap[W.heap.size]?=some (.cells #[.int .i64 0,.int .i64 0] 138 (0,0)):=(hb.block W.heap.size (by first|omega|(simp;try omega))).trans (by first|exact halloc2 _ _ rfl|exact heap_alloc2_old W _ _|exact RB.out|exact hkeep RB.out|exact hkeep (hkeep RB.out)|exact hkeep (heap_alloc2_old W _ _));(try clear RB z0 z1 f0 f1 hL9 hN9);have RB:Hid (wr.heap[W.heap.size]?=some (.cells #[.int .i64 0,.int .i64 0] 138 (0,0))):=d1;have z0:wr.cell? ⟨W.heap.size,0,none⟩=some (.int .i64 0):=(cell_of_row wr W.heap.size 0 _ _ _ d1).trans rfl;have z1:wr.cell? ⟨W.heap.size,1,none⟩=some (.int .i64 0):=(cell_of_row wr W.heap.size 1 _ _ _ d1).trans rfl;have f0:=frozen_of_row wr W.heap.size 0 _ _ d1;have f1:=frozen_of_row wr W.heap.size 1 _ _ d1;have hL9:W.heap.size<wr.heap.size:=(Array.getElem?_eq_some_iff.1 d1).1;have hN9:¬ W.heap.size=wr.heap.size:=(by omega);clear d1
    clear hb
    by_cases hlt:j<K
    · have hjl:j<l.length:=by rw [HK.out];exact hlt
      obtain ⟨i,hi⟩:∃ i,l[j]?=some i:=⟨_,List.getElem?_eq_getElem hjl⟩
      obtain ⟨g,c2,hform⟩:=Go.Joins.ownsRow_form O1.out (by omega)
      have hce:w1.cell? ⟨g,j,none⟩=some (.int .i64 (i:Int)):=by
        have hrow:=O1.out
        rw [hform] at hrow
        rw [hrow.cellAt j (by omega),List.getElem?_map,hi];rfl
      injection hform with hca _ hcc
      subst hca hcc
      have hgl:g<w1.heap.size:=World.block_lt_of_cell? w1 _ hce
      have hcr:=(hB.out.cell (p:=⟨g,j,none⟩) hgl).trans hce
      have HF:Hid (Calls Tryz.prog 256 #[.pointer (some ⟨b,0,none⟩),.int .i64 (i:Int),.string nm,.string ds] wr fun e w'=>e=.returned (idE (ownR ps nm ds i))∧Below wr.heap.size wr w'):=own_c (HW1.out.below hB.out) HPB.out i nm ds
      have hst:=upR_at (ps:=ps) (nm:=nm) (ds:=ds) hi
      rw [hU.out] at hst
      have HST:Hid _:=hst
      generalize ownR ps nm ds i=F at *
      obtain ⟨⟨F1,F2⟩,F3⟩:=F
      simp only [idE] at HF HST
      clear hce hi hjl hst hU
      by_cases hF:F3=0
      · subst hF
        have eR:R=((F1,F2),0):=by rw [HST.out,if_pos rfl]
        subst eR
        clear HST HR
        go_wp2_with (first
          | (go_at_call 256;refine HF.out.mono ?_;rintro e w2 ⟨rfl,hb⟩;have d1:w2.heap[W.heap.size]?=some (.cells #[.int .i64 0,.int .i64 0] 138 (0,0)):=(hb.block W.heap.size (by first|omega|(simp;try omega))).trans (by first|exact halloc2 _ _ rfl|exact heap_alloc2_old W _ _|exact RB.out|exact hkeep RB.out|exact hkeep (hkeep RB.out)|exact hkeep (heap_alloc2_old W _ _));(try clear RB z0 z1 f0 f1 hL9 hN9);have RB:Hid (w2.heap[W.heap.size]?=some (.cells #[.int .i64 0,.int .i64 0] 138 (0,0))):=d1;have z0:w2.cell? ⟨W.heap.size,0,none⟩=some (.int .i64 0):=(cell_of_row w2 W.heap.size 0 _ _ _ d1).trans rfl;have z1:w2.cell? ⟨W.heap.size,1,none⟩=some (.int .i64 0):=(cell_of_row w2 W.heap.size 1 _ _ _ d1).trans rfl;have f0:=frozen_of_row w2 W.heap.size 0 _ _ d1;have f1:=frozen_of_row w2 W.heap.size 1 _ _ d1;have hL9:W.heap.size<w2.heap.size:=(Array.getElem?_eq_some_iff.1 d1).1;have hN9:¬ W.heap.size=w2.heap.size:=(by omega);clear d1;have B2:Hid (Below W.heap.size W w2):=bstep (B1.out.trans (hB.out.mono B1.out.size)) hb;clear hb HF))
        exact bodyPost_ret (v:=idE ((F1,F2),0)) (by simp [results,Tryz.results259,go_sem,idE, *]) rfl ⟨rfl,(by repeat (first|exact B2.out|refine Below.setCell ?_ (by simp;try omega) _|refine Below.alloc ?_ (by have:=B2.out.size;simp;try omega) _|refine Below.drew ?_))⟩
      · have HU2:Hid (upR ps nm ds (l.drop (j+1))=R):=by rw [Hid,HST.out,if_neg hF]
        clear HST
        go_wp2_with (first
          | (go_at_call 256;refine HF.out.mono ?_;rintro e w2 ⟨rfl,hb⟩;have B2:Hid (Below w1.heap.size w1 w2):=bstep hB.out hb;clear hb HF))
        go_roundw
        case rel=>exact ⟨j+1,by go_num,by omega,HU2,B2.out.alloc B2.out.size _⟩
        case measure=>simp [intOf];omega
    · have e:j=K:=by omega
      subst e
      have eR:R=((0,0),6):=by rw [← hU.out,List.drop_of_length_le (by rw [HK.out];exact Nat.le_refl _)];rfl
      subst eR
      clear hU HR
      have B2:Hid (Below W.heap.size W wr):=B1.out.trans (hB.out.mono B1.out.size)
      go_wp2
      exact bodyPost_ret (v:=idE ((0,0),6)) (by simp [results,Tryz.results259,go_sem,idE, *]) rfl ⟨rfl,(by repeat (first|exact B2.out|refine Below.setCell ?_ (by simp;try omega) _|refine Below.alloc ?_ (by have:=B2.out.size;simp;try omega) _|refine Below.drew ?_))⟩
def firR:List ((Int×Int)×Int)→(Int×Int)×Int
  | []=>((0,0),21)
  | x::r=>if x.2=0 then (x.1,0) else firR r
theorem firR_at {l:List (Nat×((Int×Int)×Int))} {j:Nat} {x:Nat×((Int×Int)×Int)} (h:l[j]?=some x):firR ((l.drop j).map Prod.snd)=if x.2.2=0 then (x.2.1,0) else firR ((l.drop (j+1)).map Prod.snd):=by
  obtain ⟨h1,h2⟩:=List.getElem?_eq_some_iff.1 h
  rw [List.drop_eq_getElem_cons h1,h2,List.map_cons,firR]
def fnV (x:Nat×((Int×Int)×Int)):Value:=.func (.func x.1) #[] #[]
set_option maxHeartbeats 4000000 in
theorem try_c (vw vc:Value) (nm ds:ByteArray) (v:Value) (l:List (Nat×((Int×Int)×Int))) (W:World) (hv:Rds W v l.length 1 (l.map fnV)) (hn:l.length≤1000000) (eg:∀ x∈l,∀ args w,(callFunc x.1 args).run Tryz.prog w=.ok (.enter x.1 args) w)
    (hp:∀ x∈l,∀ w,Below W.heap.size W w→Calls Tryz.prog x.1 #[vw,vc,.string nm,.string ds] w fun e w'=>e=.returned (idE x.2)∧Below w.heap.size w w') :
    Calls Tryz.prog 255 #[vw,vc,.string nm,.string ds,v] W fun e w'=>e=.returned (idE (firR (l.map Prod.snd)))∧Below W.heap.size W w':=by
  obtain ⟨R,hR⟩:∃ R,firR (l.map Prod.snd)=R:=⟨_,rfl⟩
  have HR:Hid (firR ((l.drop 0).map Prod.snd)=R):=hR
  rw [hR]
  obtain ⟨K,hK⟩:∃ K,l.length=K:=⟨_,rfl⟩
  have HK:Hid (l.length=K):=hK
  obtain ⟨av,cv,rfl⟩:=hv.slice
  have HV:Hid (Rds W (.slice av l.length cv) l.length 1 (l.map fnV)):=hv
  have EG:Hid (∀ x∈l,∀ args w,(callFunc x.1 args).run Tryz.prog w=.ok (.enter x.1 args) w):=eg
  have HP:Hid (∀ x∈l,∀ w,Below W.heap.size W w→Calls Tryz.prog x.1 #[vw,vc,.string nm,.string ds] w fun e w'=>e=.returned (idE x.2)∧Below w.heap.size w w'):=hp
  rw [hK] at hn ⊢
  clear hv hR hK eg hp
  go_enter Tryz.func255,Tryz.ntmps255
  go_wp2
  go_loopw [18] (fun kv wr=>∃ (j:Nat),kv=.int .i64 j∧j≤K∧Hid (firR ((l.drop j).map Prod.snd)=R)∧Hid (Below (W.heap.size+1) (W.alloc (.cells #[.int .i64 0,.int .i64 0] 138)) wr)) (fun kv _=>K - (intOf kv).toNat)
  case atStart=>exact ⟨0,rfl,Nat.zero_le _,HR,Below.refl _ _⟩
  case round =>
    obtain ⟨j,rfl,hj,hU,hB⟩:=hrel
    have hb:=hB.out
    have d1:wr.heap[W.heap.size]?=some (.cells #[.int .i64 0,.int .i64 0] 138 (0,0)):=(hb.block W.heap.size (by first|omega|(simp;try omega))).trans (by first|exact halloc2 _ _ rfl|exact heap_alloc2_old W _ _|exact RB.out|exact hkeep RB.out|exact hkeep (hkeep RB.out)|exact hkeep (heap_alloc2_old W _ _));(try clear RB z0 z1 f0 f1 hL9 hN9);have RB:Hid (wr.heap[W.heap.size]?=some (.cells #[.int .i64 0,.int .i64 0] 138 (0,0))):=d1;have z0:wr.cell? ⟨W.heap.size,0,none⟩=some (.int .i64 0):=(cell_of_row wr W.heap.size 0 _ _ _ d1).trans rfl;have z1:wr.cell? ⟨W.heap.size,1,none⟩=some (.int .i64 0):=(cell_of_row wr W.heap.size 1 _ _ _ d1).trans rfl;have f0:=frozen_of_row wr W.heap.size 0 _ _ d1;have f1:=frozen_of_row wr W.heap.size 1 _ _ d1;have hL9:W.heap.size<wr.heap.size:=(Array.getElem?_eq_some_iff.1 d1).1;have hN9:¬ W.heap.size=wr.heap.size:=(by omega);clear d1
    have B1:Hid (Below W.heap.size W wr):=((Below.refl _ W).alloc (Nat.le_refl _) _).trans (hb.mono (by omega))
    clear hb
    by_cases hlt:j<K
    · have hjl:j<l.length:=by rw [HK.out];exact hlt
      obtain ⟨x,hx⟩:∃ i,l[j]?=some i:=⟨_,List.getElem?_eq_getElem hjl⟩
      obtain ⟨bk,o,rfl,hbk,hcell⟩:∃ bk o,av=some ⟨bk,o,none⟩∧bk<W.heap.size∧W.cell? ⟨bk,o+j,none⟩=some (.func (.func x.1) #[] #[]):=by
        rcases HV.out.val with ⟨_,e2⟩|⟨bk,o,c,e,_,_,h3,h4⟩
        · rw [HK.out] at e2;omega
        · simp only [Value.slice.injEq] at e
          exact ⟨bk,o,e.1,h3,h4 j _ (by rw [List.getElem?_map,hx];rfl)⟩
      have hcr:=(B1.out.cell (p:=⟨bk,o+j,none⟩) hbk).trans hcell
      have e1:=EG.out x (List.mem_of_getElem? hx)
      have HF:Hid (Calls Tryz.prog x.1 #[vw,vc,.string nm,.string ds] wr fun e w'=>e=.returned (idE x.2)∧Below wr.heap.size wr w'):=HP.out x (List.mem_of_getElem? hx) wr B1.out
      have hst:=firR_at hx
      rw [hU.out] at hst
      have HST:Hid _:=hst
      obtain ⟨g,⟨F1,F2⟩,F3⟩:=x
      simp only [idE] at HF HST hcr e1
      clear hcell hx hjl hst hU HV EG HP
      by_cases hF:F3=0
      · subst hF
        have eR:R=((F1,F2),0):=by rw [HST.out,if_pos rfl]
        subst eR
        clear HST HR
        go_wp2_with (first
          | (go_at_fn g;refine HF.out.mono ?_;rintro e w2 ⟨rfl,hb⟩;have d1:w2.heap[W.heap.size]?=some (.cells #[.int .i64 0,.int .i64 0] 138 (0,0)):=(hb.block W.heap.size (by first|omega|(simp;try omega))).trans (by first|exact halloc2 _ _ rfl|exact heap_alloc2_old W _ _|exact RB.out|exact hkeep RB.out|exact hkeep (hkeep RB.out)|exact hkeep (heap_alloc2_old W _ _));(try clear RB z0 z1 f0 f1 hL9 hN9);have RB:Hid (w2.heap[W.heap.size]?=some (.cells #[.int .i64 0,.int .i64 0] 138 (0,0))):=d1;have z0:w2.cell? ⟨W.heap.size,0,none⟩=some (.int .i64 0):=(cell_of_row w2 W.heap.size 0 _ _ _ d1).trans rfl;have z1:w2.cell? ⟨W.heap.size,1,none⟩=some (.int .i64 0):=(cell_of_row w2 W.heap.size 1 _ _ _ d1).trans rfl;have f0:=frozen_of_row w2 W.heap.size 0 _ _ d1;have f1:=frozen_of_row w2 W.heap.size 1 _ _ d1;have hL9:W.heap.size<w2.heap.size:=(Array.getElem?_eq_some_iff.1 d1).1;have hN9:¬ W.heap.size=w2.heap.size:=(by omega);clear d1;have B2:Hid (Below W.heap.size W w2):=bstep B1.out hb;clear hb HF))
        exact bodyPost_ret (v:=idE ((F1,F2),0)) (by simp [results,Tryz.results255,go_sem,idE, *]) rfl ⟨rfl,(by repeat (first|exact B2.out|refine Below.setCell ?_ (by simp;try omega) _|refine Below.alloc ?_ (by have:=B2.out.size;simp;try omega) _|refine Below.drew ?_))⟩
      · have HU2:Hid (firR ((l.drop (j+1)).map Prod.snd)=R):=by rw [Hid,HST.out,if_neg hF]
        clear HST
        go_wp2_with (first
          | (go_at_fn g;refine HF.out.mono ?_;rintro e w2 ⟨rfl,hb⟩;have B2:Hid (Below (W.heap.size+1) (W.alloc (.cells #[.int .i64 0,.int .i64 0] 138)) w2):=hB.out.trans (hb.mono (by have:=hB.out.size;simp at this;exact this));clear hb HF))
        go_roundw
        case rel=>exact ⟨j+1,by go_num,by omega,HU2,B2.out.alloc (by have:=B2.out.size;simp at this;exact this) _⟩
        case measure=>simp [intOf];omega
    · have e:j=K:=by omega
      subst e
      have eR:R=((0,0),21):=by rw [← hU.out,List.drop_of_length_le (by rw [HK.out];exact Nat.le_refl _)];rfl
      subst eR
      clear hU HR
      go_wp2
      exact bodyPost_ret (v:=idE ((0,0),21)) (by simp [results,Tryz.results255,go_sem,idE, *]) rfl ⟨rfl,(by repeat (first|exact B1.out|refine Below.setCell ?_ (by simp;try omega) _|refine Below.alloc ?_ (by have:=B1.out.size;simp;try omega) _|refine Below.drew ?_))⟩
def lookR (ps:List Plc) (nm ds:ByteArray) (c:Int):(Int×Int)×Int:=match plcI ps c with
  | none=>((0,0),3)
  | some q=>if ifcI ps c then ((0,0),23) else firR [upR ps nm ds (chL (ps.map nd) c.toNat),oneV ps (candL ps nm ds q.cl),someV (candL ps nm ds q.cl)]
def lifR (ps:List Plc) (nm ds:ByteArray) (c:Int):(Int×Int)×Int:=match plcI ps c with
  | none=>((0,0),3)
  | some q=>if ifcI ps c then firR [ownR ps nm ds c,topR ps nm ds,oneV ps (candL ps nm ds q.cl),someV (candL ps nm ds q.cl)] else ((0,0),23)
theorem rck_none {ps:List Plc} {i:Int} (h:plcI ps i=none):rckI ps i=3:=by rw [rckI,h];rfl
theorem rck_some {ps:List Plc} {i:Int} {q:Plc} (h:plcI ps i=some q):rckI ps i=0:=by rw [rckI,h];rfl
theorem callUp (vs:Array Value) (w:World):(callFunc 259 vs).run Tryz.prog w=.ok (.enter 259 vs) w:=by simp [go_sem]
theorem callOwn (vs:Array Value) (w:World):(callFunc 256 vs).run Tryz.prog w=.ok (.enter 256 vs) w:=by simp [go_sem]
theorem callTop (vs:Array Value) (w:World):(callFunc 257 vs).run Tryz.prog w=.ok (.enter 257 vs) w:=by simp [go_sem]
theorem callOne (vs:Array Value) (w:World):(callFunc 143 vs).run Tryz.prog w=.ok (.enter 143 vs) w:=by simp [go_sem]
theorem callSome (vs:Array Value) (w:World):(callFunc 258 vs).run Tryz.prog w=.ok (.enter 258 vs) w:=by simp [go_sem]
set_option maxHeartbeats 1000000 in
theorem look_c {b:Nat} {ps:List Plc} {W:World} (h:WAt b ps W) (hi:WI ps) (c:Int) (nm ds:ByteArray):Calls Tryz.prog 202 #[.pointer (some ⟨b,0,none⟩),.int .i64 c,.string nm,.string ds] W fun e w'=>e=.returned (idE (lookR ps nm ds c))∧Below W.heap.size W w':=by
  have HC:Hid (∀ w,Below W.heap.size W w→Calls Tryz.prog 131 #[.pointer (some ⟨b,0,none⟩),.int .i64 c] w fun e w'=>e=.returned (.int .i64 (rckI ps c))∧Below w.heap.size w w'):=fun w hb=>(rck_c (h.below hb) c).mono fun e w' zz=>⟨zz.1,by rw [zz.2];exact Below.refl _ _⟩
  have HI:Hid (∀ w,Below W.heap.size W w→Calls Tryz.prog 61 #[.pointer (some ⟨b,0,none⟩),.int .i64 c] w fun e w'=>e=.returned (.bool (ifcI ps c))∧Below w.heap.size w w'):=fun w hb=>isIface_c (h.below hb) c
  rcases plcI_cases ps c with ⟨h1,h2⟩|⟨k,q,rfl,h2,h1⟩
  · have e:lookR ps nm ds c=((0,0),3):=by rw [lookR,h1]
    rw [e]
    rw [rck_none h1] at HC
    clear h hi h1 h2 e HI
    go_enter Tryz.func202,Tryz.ntmps202
    go_wp2_with (first
      | (go_at_call 131;refine (HC.out _ (by repeat (first|exact Below.refl _ _|refine Below.setCell ?_ (by simp;try omega) _|refine Below.alloc ?_ (by simp;try omega) _|refine Below.drew ?_))).mono ?_;rintro e w2 ⟨rfl,hb⟩;have d1:w2.heap[W.heap.size]?=some (.cells #[.int .i64 0,.int .i64 0] 138 (0,0)):=(hb.block W.heap.size (by first|omega|(simp;try omega))).trans (by first|exact halloc2 _ _ rfl|exact heap_alloc2_old W _ _|exact RB.out|exact hkeep RB.out|exact hkeep (hkeep RB.out)|exact hkeep (heap_alloc2_old W _ _));(try clear RB z0 z1 f0 f1 hL9 hN9);have RB:Hid (w2.heap[W.heap.size]?=some (.cells #[.int .i64 0,.int .i64 0] 138 (0,0))):=d1;have z0:w2.cell? ⟨W.heap.size,0,none⟩=some (.int .i64 0):=(cell_of_row w2 W.heap.size 0 _ _ _ d1).trans rfl;have z1:w2.cell? ⟨W.heap.size,1,none⟩=some (.int .i64 0):=(cell_of_row w2 W.heap.size 1 _ _ _ d1).trans rfl;have f0:=frozen_of_row w2 W.heap.size 0 _ _ d1;have f1:=frozen_of_row w2 W.heap.size 1 _ _ d1;have hL9:W.heap.size<w2.heap.size:=(Array.getElem?_eq_some_iff.1 d1).1;have hN9:¬ W.heap.size=w2.heap.size:=(by omega);clear d1;have B2:Hid (Below W.heap.size W w2):=bstep (by repeat (first|exact Below.refl _ _|refine Below.setCell ?_ (by simp;try omega) _|refine Below.alloc ?_ (by simp;try omega) _|refine Below.drew ?_)) hb;clear hb HC))
    exact bodyPost_ret (v:=idE ((0,0),3)) (by simp [results,Tryz.results202,go_sem,idE, *]) rfl ⟨rfl,(by repeat (first|exact B2.out|refine Below.setCell ?_ (by simp;try omega) _|refine Below.alloc ?_ (by have:=B2.out.size;simp;try omega) _|refine Below.drew ?_))⟩
  · have e:lookR ps nm ds (k:Int)=if ifcI ps (k:Int) then ((0,0),23) else firR [upR ps nm ds (chL (ps.map nd) k),oneV ps (candL ps nm ds q.cl),someV (candL ps nm ds q.cl)]:=by rw [lookR,h1];rfl
    rw [e]
    rw [rck_some h1] at HC
    clear e
    have HT:Hid (∀ w v,Below W.heap.size W w→Rds w v 3 1 [.func (.func 259) #[] #[],.func (.func 143) #[] #[],.func (.func 258) #[] #[]]→Calls Tryz.prog 255 #[.pointer (some ⟨b,0,none⟩),.int .i64 (k:Int),.string nm,.string ds,v] w fun e w'=>e=.returned (idE (firR [upR ps nm ds (chL (ps.map nd) k),oneV ps (candL ps nm ds q.cl),someV (candL ps nm ds q.cl)]))∧Below w.heap.size w w'):=fun w v hb hv=>by
      refine try_c _ _ nm ds v [(259,upR ps nm ds (chL (ps.map nd) k)),(143,oneV ps (candL ps nm ds q.cl)),(258,someV (candL ps nm ds q.cl))] w hv (by simp) ?_ ?_
      · intro x hx
        simp only [List.mem_cons,List.not_mem_nil,or_false] at hx
        rcases hx with rfl|rfl|rfl
        · exact callUp
        · exact callOne
        · exact callSome
      · intro x hx w' hb'
        have hw:=(h.below hb).below hb'
        simp only [List.mem_cons,List.not_mem_nil,or_false] at hx
        rcases hx with rfl|rfl|rfl
        · exact up_yes hw hi k q h2 nm ds
        · exact one_yes hw hi k q h2 nm ds
        · exact some_yes hw hi k q h2 nm ds
    generalize firR [upR ps nm ds (chL (ps.map nd) k),oneV ps (candL ps nm ds q.cl),someV (candL ps nm ds q.cl)]=R at *
    obtain ⟨⟨R1,R2⟩,R3⟩:=R
    simp only [idE] at HT
    generalize ifcI ps (k:Int)=y at *
    clear h hi h1 h2
    cases y with
    | true =>
      rw [if_pos rfl]
      go_enter Tryz.func202,Tryz.ntmps202
      go_wp2_with (first
        | (go_at_call 131;refine (HC.out _ (by repeat (first|exact Below.refl _ _|refine Below.setCell ?_ (by simp;try omega) _|refine Below.alloc ?_ (by simp;try omega) _|refine Below.drew ?_))).mono ?_;rintro e w1 ⟨rfl,hb⟩;have d1:w1.heap[W.heap.size]?=some (.cells #[.int .i64 0,.int .i64 0] 138 (0,0)):=(hb.block W.heap.size (by first|omega|(simp;try omega))).trans (by first|exact halloc2 _ _ rfl|exact heap_alloc2_old W _ _|exact RB.out|exact hkeep RB.out|exact hkeep (hkeep RB.out)|exact hkeep (heap_alloc2_old W _ _));(try clear RB z0 z1 f0 f1 hL9 hN9);have RB:Hid (w1.heap[W.heap.size]?=some (.cells #[.int .i64 0,.int .i64 0] 138 (0,0))):=d1;have z0:w1.cell? ⟨W.heap.size,0,none⟩=some (.int .i64 0):=(cell_of_row w1 W.heap.size 0 _ _ _ d1).trans rfl;have z1:w1.cell? ⟨W.heap.size,1,none⟩=some (.int .i64 0):=(cell_of_row w1 W.heap.size 1 _ _ _ d1).trans rfl;have f0:=frozen_of_row w1 W.heap.size 0 _ _ d1;have f1:=frozen_of_row w1 W.heap.size 1 _ _ d1;have hL9:W.heap.size<w1.heap.size:=(Array.getElem?_eq_some_iff.1 d1).1;have hN9:¬ W.heap.size=w1.heap.size:=(by omega);clear d1;have B1:Hid (Below W.heap.size W w1):=bstep (by repeat (first|exact Below.refl _ _|refine Below.setCell ?_ (by simp;try omega) _|refine Below.alloc ?_ (by simp;try omega) _|refine Below.drew ?_)) hb;clear hb HC)
        | (go_at_call 61;refine (HI.out _ B1.out).mono ?_;rintro e w2 ⟨rfl,hb⟩;have d1:w2.heap[W.heap.size]?=some (.cells #[.int .i64 0,.int .i64 0] 138 (0,0)):=(hb.block W.heap.size (by first|omega|(simp;try omega))).trans (by first|exact halloc2 _ _ rfl|exact heap_alloc2_old W _ _|exact RB.out|exact hkeep RB.out|exact hkeep (hkeep RB.out)|exact hkeep (heap_alloc2_old W _ _));(try clear RB z0 z1 f0 f1 hL9 hN9);have RB:Hid (w2.heap[W.heap.size]?=some (.cells #[.int .i64 0,.int .i64 0] 138 (0,0))):=d1;have z0:w2.cell? ⟨W.heap.size,0,none⟩=some (.int .i64 0):=(cell_of_row w2 W.heap.size 0 _ _ _ d1).trans rfl;have z1:w2.cell? ⟨W.heap.size,1,none⟩=some (.int .i64 0):=(cell_of_row w2 W.heap.size 1 _ _ _ d1).trans rfl;have f0:=frozen_of_row w2 W.heap.size 0 _ _ d1;have f1:=frozen_of_row w2 W.heap.size 1 _ _ d1;have hL9:W.heap.size<w2.heap.size:=(Array.getElem?_eq_some_iff.1 d1).1;have hN9:¬ W.heap.size=w2.heap.size:=(by omega);clear d1;have B2:Hid (Below W.heap.size W w2):=bstep B1.out hb;clear hb HI))
      exact bodyPost_ret (v:=idE ((0,0),23)) (by simp [results,Tryz.results202,go_sem,idE, *]) rfl ⟨rfl,(by repeat (first|exact B2.out|refine Below.setCell ?_ (by simp;try omega) _|refine Below.alloc ?_ (by have:=B2.out.size;simp;try omega) _|refine Below.drew ?_))⟩
    | false =>
      rw [if_neg (by simp)]
      go_enter Tryz.func202,Tryz.ntmps202
      go_wp2_with (first
        | (go_at_call 131;refine (HC.out _ (by repeat (first|exact Below.refl _ _|refine Below.setCell ?_ (by simp;try omega) _|refine Below.alloc ?_ (by simp;try omega) _|refine Below.drew ?_))).mono ?_;rintro e w1 ⟨rfl,hb⟩;have d1:w1.heap[W.heap.size]?=some (.cells #[.int .i64 0,.int .i64 0] 138 (0,0)):=(hb.block W.heap.size (by first|omega|(simp;try omega))).trans (by first|exact halloc2 _ _ rfl|exact heap_alloc2_old W _ _|exact RB.out|exact hkeep RB.out|exact hkeep (hkeep RB.out)|exact hkeep (heap_alloc2_old W _ _));(try clear RB z0 z1 f0 f1 hL9 hN9);have RB:Hid (w1.heap[W.heap.size]?=some (.cells #[.int .i64 0,.int .i64 0] 138 (0,0))):=d1;have z0:w1.cell? ⟨W.heap.size,0,none⟩=some (.int .i64 0):=(cell_of_row w1 W.heap.size 0 _ _ _ d1).trans rfl;have z1:w1.cell? ⟨W.heap.size,1,none⟩=some (.int .i64 0):=(cell_of_row w1 W.heap.size 1 _ _ _ d1).trans rfl;have f0:=frozen_of_row w1 W.heap.size 0 _ _ d1;have f1:=frozen_of_row w1 W.heap.size 1 _ _ d1;have hL9:W.heap.size<w1.heap.size:=(Array.getElem?_eq_some_iff.1 d1).1;have hN9:¬ W.heap.size=w1.heap.size:=(by omega);clear d1;have B1:Hid (Below W.heap.size W w1):=bstep (by repeat (first|exact Below.refl _ _|refine Below.setCell ?_ (by simp;try omega) _|refine Below.alloc ?_ (by simp;try omega) _|refine Below.drew ?_)) hb;clear hb HC)
        | (go_at_call 61;refine (HI.out _ B1.out).mono ?_;rintro e w2 ⟨rfl,hb⟩;have d1:w2.heap[W.heap.size]?=some (.cells #[.int .i64 0,.int .i64 0] 138 (0,0)):=(hb.block W.heap.size (by first|omega|(simp;try omega))).trans (by first|exact halloc2 _ _ rfl|exact heap_alloc2_old W _ _|exact RB.out|exact hkeep RB.out|exact hkeep (hkeep RB.out)|exact hkeep (heap_alloc2_old W _ _));(try clear RB z0 z1 f0 f1 hL9 hN9);have RB:Hid (w2.heap[W.heap.size]?=some (.cells #[.int .i64 0,.int .i64 0] 138 (0,0))):=d1;have z0:w2.cell? ⟨W.heap.size,0,none⟩=some (.int .i64 0):=(cell_of_row w2 W.heap.size 0 _ _ _ d1).trans rfl;have z1:w2.cell? ⟨W.heap.size,1,none⟩=some (.int .i64 0):=(cell_of_row w2 W.heap.size 1 _ _ _ d1).trans rfl;have f0:=frozen_of_row w2 W.heap.size 0 _ _ d1;have f1:=frozen_of_row w2 W.heap.size 1 _ _ d1;have hL9:W.heap.size<w2.heap.size:=(Array.getElem?_eq_some_iff.1 d1).1;have hN9:¬ W.heap.size=w2.heap.size:=(by omega);clear d1;have B2:Hid (Below W.heap.size W w2):=bstep B1.out hb;clear hb HI)
        | (go_at_call 255;refine (HT.out _ _ (B2.out.alloc B2.out.size _) (rds_at _ _ (by simp) _ _ 3 1 rfl (by decide))).mono ?_;rintro e w3 ⟨rfl,hb⟩;have d1:w3.heap[W.heap.size]?=some (.cells #[.int .i64 0,.int .i64 0] 138 (0,0)):=(hb.block W.heap.size (by first|omega|(simp;try omega))).trans (by first|exact halloc2 _ _ rfl|exact heap_alloc2_old W _ _|exact RB.out|exact hkeep RB.out|exact hkeep (hkeep RB.out)|exact hkeep (heap_alloc2_old W _ _));(try clear RB z0 z1 f0 f1 hL9 hN9);have RB:Hid (w3.heap[W.heap.size]?=some (.cells #[.int .i64 0,.int .i64 0] 138 (0,0))):=d1;have z0:w3.cell? ⟨W.heap.size,0,none⟩=some (.int .i64 0):=(cell_of_row w3 W.heap.size 0 _ _ _ d1).trans rfl;have z1:w3.cell? ⟨W.heap.size,1,none⟩=some (.int .i64 0):=(cell_of_row w3 W.heap.size 1 _ _ _ d1).trans rfl;have f0:=frozen_of_row w3 W.heap.size 0 _ _ d1;have f1:=frozen_of_row w3 W.heap.size 1 _ _ d1;have hL9:W.heap.size<w3.heap.size:=(Array.getElem?_eq_some_iff.1 d1).1;have hN9:¬ W.heap.size=w3.heap.size:=(by omega);clear d1;have B3:Hid (Below W.heap.size W w3):=bstep (B2.out.alloc B2.out.size _) hb;clear hb HT))
      exact bodyPost_ret (v:=idE ((R1,R2),R3)) (by simp [results,Tryz.results202,go_sem,idE, *]) rfl ⟨rfl,(by repeat (first|exact B3.out|refine Below.setCell ?_ (by simp;try omega) _|refine Below.alloc ?_ (by have:=B3.out.size;simp;try omega) _|refine Below.drew ?_))⟩
set_option maxHeartbeats 1000000 in
theorem lif_c {b:Nat} {ps:List Plc} {W:World} (h:WAt b ps W) (hi:WI ps) (c:Int) (nm ds:ByteArray):Calls Tryz.prog 201 #[.pointer (some ⟨b,0,none⟩),.int .i64 c,.string nm,.string ds] W fun e w'=>e=.returned (idE (lifR ps nm ds c))∧Below W.heap.size W w':=by
  have HC:Hid (∀ w,Below W.heap.size W w→Calls Tryz.prog 131 #[.pointer (some ⟨b,0,none⟩),.int .i64 c] w fun e w'=>e=.returned (.int .i64 (rckI ps c))∧Below w.heap.size w w'):=fun w hb=>(rck_c (h.below hb) c).mono fun e w' zz=>⟨zz.1,by rw [zz.2];exact Below.refl _ _⟩
  have HI:Hid (∀ w,Below W.heap.size W w→Calls Tryz.prog 61 #[.pointer (some ⟨b,0,none⟩),.int .i64 c] w fun e w'=>e=.returned (.bool (ifcI ps c))∧Below w.heap.size w w'):=fun w hb=>isIface_c (h.below hb) c
  rcases plcI_cases ps c with ⟨h1,h2⟩|⟨k,q,rfl,h2,h1⟩
  · have e:lifR ps nm ds c=((0,0),3):=by rw [lifR,h1]
    rw [e]
    rw [rck_none h1] at HC
    clear h hi h1 h2 e HI
    go_enter Tryz.func201,Tryz.ntmps201
    go_wp2_with (first
      | (go_at_call 131;refine (HC.out _ (by repeat (first|exact Below.refl _ _|refine Below.setCell ?_ (by simp;try omega) _|refine Below.alloc ?_ (by simp;try omega) _|refine Below.drew ?_))).mono ?_;rintro e w2 ⟨rfl,hb⟩;have d1:w2.heap[W.heap.size]?=some (.cells #[.int .i64 0,.int .i64 0] 138 (0,0)):=(hb.block W.heap.size (by first|omega|(simp;try omega))).trans (by first|exact halloc2 _ _ rfl|exact heap_alloc2_old W _ _|exact RB.out|exact hkeep RB.out|exact hkeep (hkeep RB.out)|exact hkeep (heap_alloc2_old W _ _));(try clear RB z0 z1 f0 f1 hL9 hN9);have RB:Hid (w2.heap[W.heap.size]?=some (.cells #[.int .i64 0,.int .i64 0] 138 (0,0))):=d1;have z0:w2.cell? ⟨W.heap.size,0,none⟩=some (.int .i64 0):=(cell_of_row w2 W.heap.size 0 _ _ _ d1).trans rfl;have z1:w2.cell? ⟨W.heap.size,1,none⟩=some (.int .i64 0):=(cell_of_row w2 W.heap.size 1 _ _ _ d1).trans rfl;have f0:=frozen_of_row w2 W.heap.size 0 _ _ d1;have f1:=frozen_of_row w2 W.heap.size 1 _ _ d1;have hL9:W.heap.size<w2.heap.size:=(Array.getElem?_eq_some_iff.1 d1).1;have hN9:¬ W.heap.size=w2.heap.size:=(by omega);clear d1;have B2:Hid (Below W.heap.size W w2):=bstep (by repeat (first|exact Below.refl _ _|refine Below.setCell ?_ (by simp;try omega) _|refine Below.alloc ?_ (by simp;try omega) _|refine Below.drew ?_)) hb;clear hb HC))
    exact bodyPost_ret (v:=idE ((0,0),3)) (by simp [results,Tryz.results201,go_sem,idE, *]) rfl ⟨rfl,(by repeat (first|exact B2.out|refine Below.setCell ?_ (by simp;try omega) _|refine Below.alloc ?_ (by have:=B2.out.size;simp;try omega) _|refine Below.drew ?_))⟩
  · have e:lifR ps nm ds (k:Int)=if ifcI ps (k:Int) then firR [ownR ps nm ds (k:Int),topR ps nm ds,oneV ps (candL ps nm ds q.cl),someV (candL ps nm ds q.cl)] else ((0,0),23):=by rw [lifR,h1]
    rw [e]
    rw [rck_some h1] at HC
    clear e
    have HT:Hid (∀ w v,Below W.heap.size W w→Rds w v 4 1 [.func (.func 256) #[] #[],.func (.func 257) #[] #[],.func (.func 143) #[] #[],.func (.func 258) #[] #[]]→Calls Tryz.prog 255 #[.pointer (some ⟨b,0,none⟩),.int .i64 (k:Int),.string nm,.string ds,v] w fun e w'=>e=.returned (idE (firR [ownR ps nm ds (k:Int),topR ps nm ds,oneV ps (candL ps nm ds q.cl),someV (candL ps nm ds q.cl)]))∧Below w.heap.size w w'):=fun w v hb hv=>by
      refine try_c _ _ nm ds v [(256,ownR ps nm ds (k:Int)),(257,topR ps nm ds),(143,oneV ps (candL ps nm ds q.cl)),(258,someV (candL ps nm ds q.cl))] w hv (by simp) ?_ ?_
      · intro x hx
        simp only [List.mem_cons,List.not_mem_nil,or_false] at hx
        rcases hx with rfl|rfl|rfl|rfl
        · exact callOwn
        · exact callTop
        · exact callOne
        · exact callSome
      · intro x hx w' hb'
        have hw:=(h.below hb).below hb'
        simp only [List.mem_cons,List.not_mem_nil,or_false] at hx
        rcases hx with rfl|rfl|rfl|rfl
        · exact own_c hw hi.pb k nm ds
        · exact top_c hw hi.pb k nm ds
        · exact one_yes hw hi k q h2 nm ds
        · exact some_yes hw hi k q h2 nm ds
    generalize firR [ownR ps nm ds (k:Int),topR ps nm ds,oneV ps (candL ps nm ds q.cl),someV (candL ps nm ds q.cl)]=R at *
    obtain ⟨⟨R1,R2⟩,R3⟩:=R
    simp only [idE] at HT
    generalize ifcI ps (k:Int)=y at *
    clear h hi h1 h2
    cases y with
    | false =>
      rw [if_neg (by simp)]
      go_enter Tryz.func201,Tryz.ntmps201
      go_wp2_with (first
        | (go_at_call 131;refine (HC.out _ (by repeat (first|exact Below.refl _ _|refine Below.setCell ?_ (by simp;try omega) _|refine Below.alloc ?_ (by simp;try omega) _|refine Below.drew ?_))).mono ?_;rintro e w1 ⟨rfl,hb⟩;have d1:w1.heap[W.heap.size]?=some (.cells #[.int .i64 0,.int .i64 0] 138 (0,0)):=(hb.block W.heap.size (by first|omega|(simp;try omega))).trans (by first|exact halloc2 _ _ rfl|exact heap_alloc2_old W _ _|exact RB.out|exact hkeep RB.out|exact hkeep (hkeep RB.out)|exact hkeep (heap_alloc2_old W _ _));(try clear RB z0 z1 f0 f1 hL9 hN9);have RB:Hid (w1.heap[W.heap.size]?=some (.cells #[.int .i64 0,.int .i64 0] 138 (0,0))):=d1;have z0:w1.cell? ⟨W.heap.size,0,none⟩=some (.int .i64 0):=(cell_of_row w1 W.heap.size 0 _ _ _ d1).trans rfl;have z1:w1.cell? ⟨W.heap.size,1,none⟩=some (.int .i64 0):=(cell_of_row w1 W.heap.size 1 _ _ _ d1).trans rfl;have f0:=frozen_of_row w1 W.heap.size 0 _ _ d1;have f1:=frozen_of_row w1 W.heap.size 1 _ _ d1;have hL9:W.heap.size<w1.heap.size:=(Array.getElem?_eq_some_iff.1 d1).1;have hN9:¬ W.heap.size=w1.heap.size:=(by omega);clear d1;have B1:Hid (Below W.heap.size W w1):=bstep (by repeat (first|exact Below.refl _ _|refine Below.setCell ?_ (by simp;try omega) _|refine Below.alloc ?_ (by simp;try omega) _|refine Below.drew ?_)) hb;clear hb HC)
        | (go_at_call 61;refine (HI.out _ B1.out).mono ?_;rintro e w2 ⟨rfl,hb⟩;have d1:w2.heap[W.heap.size]?=some (.cells #[.int .i64 0,.int .i64 0] 138 (0,0)):=(hb.block W.heap.size (by first|omega|(simp;try omega))).trans (by first|exact halloc2 _ _ rfl|exact heap_alloc2_old W _ _|exact RB.out|exact hkeep RB.out|exact hkeep (hkeep RB.out)|exact hkeep (heap_alloc2_old W _ _));(try clear RB z0 z1 f0 f1 hL9 hN9);have RB:Hid (w2.heap[W.heap.size]?=some (.cells #[.int .i64 0,.int .i64 0] 138 (0,0))):=d1;have z0:w2.cell? ⟨W.heap.size,0,none⟩=some (.int .i64 0):=(cell_of_row w2 W.heap.size 0 _ _ _ d1).trans rfl;have z1:w2.cell? ⟨W.heap.size,1,none⟩=some (.int .i64 0):=(cell_of_row w2 W.heap.size 1 _ _ _ d1).trans rfl;have f0:=frozen_of_row w2 W.heap.size 0 _ _ d1;have f1:=frozen_of_row w2 W.heap.size 1 _ _ d1;have hL9:W.heap.size<w2.heap.size:=(Array.getElem?_eq_some_iff.1 d1).1;have hN9:¬ W.heap.size=w2.heap.size:=(by omega);clear d1;have B2:Hid (Below W.heap.size W w2):=bstep B1.out hb;clear hb HI))
      exact bodyPost_ret (v:=idE ((0,0),23)) (by simp [results,Tryz.results201,go_sem,idE, *]) rfl ⟨rfl,(by repeat (first|exact B2.out|refine Below.setCell ?_ (by simp;try omega) _|refine Below.alloc ?_ (by have:=B2.out.size;simp;try omega) _|refine Below.drew ?_))⟩
    | true =>
      rw [if_pos rfl]
      go_enter Tryz.func201,Tryz.ntmps201
      go_wp2_with (first
        | (go_at_call 131;refine (HC.out _ (by repeat (first|exact Below.refl _ _|refine Below.setCell ?_ (by simp;try omega) _|refine Below.alloc ?_ (by simp;try omega) _|refine Below.drew ?_))).mono ?_;rintro e w1 ⟨rfl,hb⟩;have d1:w1.heap[W.heap.size]?=some (.cells #[.int .i64 0,.int .i64 0] 138 (0,0)):=(hb.block W.heap.size (by first|omega|(simp;try omega))).trans (by first|exact halloc2 _ _ rfl|exact heap_alloc2_old W _ _|exact RB.out|exact hkeep RB.out|exact hkeep (hkeep RB.out)|exact hkeep (heap_alloc2_old W _ _));(try clear RB z0 z1 f0 f1 hL9 hN9);have RB:Hid (w1.heap[W.heap.size]?=some (.cells #[.int .i64 0,.int .i64 0] 138 (0,0))):=d1;have z0:w1.cell? ⟨W.heap.size,0,none⟩=some (.int .i64 0):=(cell_of_row w1 W.heap.size 0 _ _ _ d1).trans rfl;have z1:w1.cell? ⟨W.heap.size,1,none⟩=some (.int .i64 0):=(cell_of_row w1 W.heap.size 1 _ _ _ d1).trans rfl;have f0:=frozen_of_row w1 W.heap.size 0 _ _ d1;have f1:=frozen_of_row w1 W.heap.size 1 _ _ d1;have hL9:W.heap.size<w1.heap.size:=(Array.getElem?_eq_some_iff.1 d1).1;have hN9:¬ W.heap.size=w1.heap.size:=(by omega);clear d1;have B1:Hid (Below W.heap.size W w1):=bstep (by repeat (first|exact Below.refl _ _|refine Below.setCell ?_ (by simp;try omega) _|refine Below.alloc ?_ (by simp;try omega) _|refine Below.drew ?_)) hb;clear hb HC)
        | (go_at_call 61;refine (HI.out _ B1.out).mono ?_;rintro e w2 ⟨rfl,hb⟩;have d1:w2.heap[W.heap.size]?=some (.cells #[.int .i64 0,.int .i64 0] 138 (0,0)):=(hb.block W.heap.size (by first|omega|(simp;try omega))).trans (by first|exact halloc2 _ _ rfl|exact heap_alloc2_old W _ _|exact RB.out|exact hkeep RB.out|exact hkeep (hkeep RB.out)|exact hkeep (heap_alloc2_old W _ _));(try clear RB z0 z1 f0 f1 hL9 hN9);have RB:Hid (w2.heap[W.heap.size]?=some (.cells #[.int .i64 0,.int .i64 0] 138 (0,0))):=d1;have z0:w2.cell? ⟨W.heap.size,0,none⟩=some (.int .i64 0):=(cell_of_row w2 W.heap.size 0 _ _ _ d1).trans rfl;have z1:w2.cell? ⟨W.heap.size,1,none⟩=some (.int .i64 0):=(cell_of_row w2 W.heap.size 1 _ _ _ d1).trans rfl;have f0:=frozen_of_row w2 W.heap.size 0 _ _ d1;have f1:=frozen_of_row w2 W.heap.size 1 _ _ d1;have hL9:W.heap.size<w2.heap.size:=(Array.getElem?_eq_some_iff.1 d1).1;have hN9:¬ W.heap.size=w2.heap.size:=(by omega);clear d1;have B2:Hid (Below W.heap.size W w2):=bstep B1.out hb;clear hb HI)
        | (go_at_call 255;refine (HT.out _ _ (B2.out.alloc B2.out.size _) (rds_at _ _ (by simp) _ _ 4 1 rfl (by decide))).mono ?_;rintro e w3 ⟨rfl,hb⟩;have d1:w3.heap[W.heap.size]?=some (.cells #[.int .i64 0,.int .i64 0] 138 (0,0)):=(hb.block W.heap.size (by first|omega|(simp;try omega))).trans (by first|exact halloc2 _ _ rfl|exact heap_alloc2_old W _ _|exact RB.out|exact hkeep RB.out|exact hkeep (hkeep RB.out)|exact hkeep (heap_alloc2_old W _ _));(try clear RB z0 z1 f0 f1 hL9 hN9);have RB:Hid (w3.heap[W.heap.size]?=some (.cells #[.int .i64 0,.int .i64 0] 138 (0,0))):=d1;have z0:w3.cell? ⟨W.heap.size,0,none⟩=some (.int .i64 0):=(cell_of_row w3 W.heap.size 0 _ _ _ d1).trans rfl;have z1:w3.cell? ⟨W.heap.size,1,none⟩=some (.int .i64 0):=(cell_of_row w3 W.heap.size 1 _ _ _ d1).trans rfl;have f0:=frozen_of_row w3 W.heap.size 0 _ _ d1;have f1:=frozen_of_row w3 W.heap.size 1 _ _ d1;have hL9:W.heap.size<w3.heap.size:=(Array.getElem?_eq_some_iff.1 d1).1;have hN9:¬ W.heap.size=w3.heap.size:=(by omega);clear d1;have B3:Hid (Below W.heap.size W w3):=bstep (B2.out.alloc B2.out.size _) hb;clear hb HT))
      exact bodyPost_ret (v:=idE ((R1,R2),R3)) (by simp [results,Tryz.results201,go_sem,idE, *]) rfl ⟨rfl,(by repeat (first|exact B3.out|refine Below.setCell ?_ (by simp;try omega) _|refine Below.alloc ?_ (by have:=B3.out.size;simp;try omega) _|refine Below.drew ?_))⟩
def lbyR (ps:List Plc) (y:Bool) (nm ds:ByteArray) (c:Int):(Int×Int)×Int:=if y then lifR ps nm ds c else lookR ps nm ds c
end Go.Proofs.YtlohdfpinmdljaaGreatDoor
