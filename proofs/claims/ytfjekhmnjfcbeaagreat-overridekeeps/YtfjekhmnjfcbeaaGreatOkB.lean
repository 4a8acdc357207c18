import Derived.Test.YtfjekhmnjfcbeaaGreatLpB
import Derived.Test.YtfjekhmnjfcbeaaGreatDlA
import Derived.Test.YtfjekhmnjfcbeaaGreatRsA
set_option maxRecDepth 100000
namespace Go.Proofs.YtfjekhmnjfcbeaaGreat
open Go.RowKit Go.Maps
theorem step_call2o {P:Program} {ops:Array Oper} {o:Oper} {a:Act} {w:World} {K:Act→World→Prop} {Q:Exit→Act→World→Prop} {E:Prop} (hg:o.guard=none) (f:Nat) (hf:∀ (vs:Array Value) (w:World),(callFunc f vs).run P w=.ok (.enter f vs) w) (x y:Operand) (t1 t2:TypeId)
    (hop:o.op=Op.call { callee:=Callee.value (Operand.func f),args:=#[x,y],argTypes:=#[t1,t2] }) {R:Ending→World→Prop} (v1 v2:Value) (hv1:a.eval x=v1) (hv2:a.eval y=v2) (h:Calls P f #[v1,v2] w R) (hR:∀ e w',R e w'→∃ u,e=.returned u∧K (a.put o.dst u) w') :
    if Region.wanted o (yielded ops a.tmps)=true then Oper.wp P o a w K Q else E:=by
  have hw:Region.wanted o (yielded ops a.tmps)=true:=by simp [Region.wanted,hg]
  rw [if_pos hw]
  unfold Oper.wp
  have e:(execOp a.eval o).run P w=.ok (.enter f #[v1,v2]) w:=by
    simp [execOp,hop,resolve,invoke,hv1,hv2]
    simp [go_sem,hf]
  rw [e,Oper.upon_enter]
  exact h.mono (fun e w' hr=>by obtain ⟨u,rfl,hk⟩:=hR e w' hr;exact hk)
theorem callOf9 (vs:Array Value) (w:World):(callFunc 35 vs).run Tryz.prog w=.ok (.enter 35 vs) w:=by simp [go_sem]
theorem callR9a (vs:Array Value) (w:World):(callFunc 34 vs).run Tryz.prog w=.ok (.enter 34 vs) w:=by simp [go_sem]
theorem own_apart9 {w w':World} {N e s n:Nat} {v u:Value} {xs:List Value} (h:w.ownsRow N e s v n xs) (hu:∀ k,u.ownBlock=some k→k<N) (hg:w.grownBy w' u.ownBlock):w'.ownsRow N e s v n xs:=by
  refine h.kept hg ?_
  cases ob:v.ownBlock with
  | none=>exact .inl rfl
  | some k=>exact .inr fun e1=>by have h1:=(h.lt k ob).1;have h2:=hu k e1.symm;omega
set_option maxHeartbeats 8000000 in
theorem okeeps_w (ps:List Plc) (cs:List Cls) (W:World) (av:Option Addr) (nv cv:Nat) (y:Int) (r:Int) (E:Int) (K:Nat) (F:List Value) (hK:K≤1000000) (HB:Hid (∀ w:World,Below W.heap.size W w→Calls Tryz.prog 32 #[.slice av nv cv] w fun e w'=>(∃ b,e=.returned (.pointer (some ⟨b,0,none⟩))∧WAt b ps w')∧Below w.heap.size w w')) (HO:Hid (∀ w:World,Below W.heap.size W w→Calls Tryz.prog 35 #[.slice av nv cv] w fun e w'=>(∃ b,e=.returned (.pointer (some ⟨b,0,none⟩))∧RAt b cs w')∧Below w.heap.size w w')) (HV:Hid (∀ b w,WAt b ps w→Calls Tryz.prog 33 #[.pointer (some ⟨b,0,none⟩),.agg #[.int .i64 y,.int .i64 r]] w fun e w'=>(∃ v,e=.returned (.tuple #[v,.int .i64 E])∧w'.ownsRow w.heap.size 60 2 v K F)∧Below w.heap.size w w')) (HX:Hid (∀ b w,RAt b cs w→Calls Tryz.prog 34 #[.pointer (some ⟨b,0,none⟩),.agg #[.int .i64 y,.int .i64 r]] w fun e w'=>(∃ v,e=.returned (.tuple #[v,.int .i64 E])∧w'.ownsRow w.heap.size 60 2 v K F)∧Below w.heap.size w w')) (HS1:Hid (∀ N1 N2 v1 v2 (w:World),w.ownsRow N1 60 2 v1 K F→w.ownsRow N2 60 2 v2 K F→Calls Tryz.prog 36 #[v1,v2] w fun e w'=>e=.returned (.bool true)∧Below w.heap.size w w')) :
    Calls Tryz.prog 5 #[.slice av nv cv,.agg #[.int .i64 y,.int .i64 r]] W fun e w'=>e=.returned (.bool true)∧Below W.heap.size W w':=by
  have HA:Hid (∀ w:World,Calls Tryz.prog 31 #[] w fun e w'=>e=.returned (.bool true)∧Below w.heap.size w w'):=awake9_c
  have BB:Hid (Below W.heap.size W W):=Below.refl _ _
  have HS2:=HS1
  have HS3:=HS1
  have HS4:=HS1
  have HNP:Hid (∀ w:World,Calls Tryz.prog 37 #[.pointer none,.agg #[.int .i64 y,.int .i64 r],.agg #[.int .i64 y,.int .i64 r]] w fun e w'=>e=.returned (.tuple #[.bool false,.int .i64 2])∧Below w.heap.size w w'):=fun w=>plan_c w y r y r
  have HNO:Hid (∀ w:World,Calls Tryz.prog 38 #[.pointer none,.agg #[.int .i64 y,.int .i64 r],.agg #[.int .i64 y,.int .i64 r]] w fun e w'=>e=.returned (.tuple #[.bool false,.int .i64 2])∧Below w.heap.size w w'):=fun w=>ovrn_c w y r y r
  have HNF:Hid (∀ w:World,Calls Tryz.prog 39 #[.pointer none,.int .i64 0,.agg #[.int .i64 y,.int .i64 r]] w fun e w'=>e=.returned (.tuple #[.agg #[.int .i64 0,.int .i64 0],.int .i64 2])∧Below w.heap.size w w'):=fun w=>firstn_c w 0 y r
  have HNA:Hid (∀ w:World,Calls Tryz.prog 33 #[.pointer none,.agg #[.int .i64 y,.int .i64 r]] w fun e w'=>e=.returned (.tuple #[.slice none 0 0,.int .i64 2])∧Below w.heap.size w w'):=fun w=>alln_c w y r
  obtain ⟨i0,hi0,hz0,hz1,hz2⟩:=info_parts Tryz.hinfoD
  go_enter Tryz.func5,Tryz.ntmps5
  go_upto_region 6 with (first
    | (go_at_call 31;refine (HA.out _).mono ?_;rintro e w1 ⟨rfl,hb⟩;have uud:=kp2 (n:=W.heap.size) hb;(try clear uuB uu0 uu1 uuf uuL uuN);obtain ⟨uuB,uu0,uu1,uuf,uuL,uuN⟩:=uud;have BB2:Below W.heap.size W w1:=bstep (by repeat (first|refine Below.setCell ?_ (by simp;try omega) _|refine Below.alloc ?_ (by have:=BB.out.size;simp;try omega) _|refine Below.drew ?_|exact BB.out)) hb;clear BB;have BB:Hid (Below W.heap.size W w1):=BB2;clear BB2;clear hb HA)
    | (go_at_call 32;refine (HB.out _ BB.out).mono ?_;rintro e w2 ⟨⟨b,rfl,hw⟩,hb⟩;have uud:=kp2 (n:=W.heap.size) hb;(try clear uuB uu0 uu1 uuf uuL uuN);obtain ⟨uuB,uu0,uu1,uuf,uuL,uuN⟩:=uud;have B2:Hid (Below W.heap.size W w2):=bstep BB.out hb;have hV:∀ w,Below w2.heap.size w2 w→Calls Tryz.prog 33 #[.pointer (some ⟨b,0,none⟩),.agg #[.int .i64 y,.int .i64 r]] w fun e w'=>(∃ v,e=.returned (.tuple #[v,.int .i64 E])∧w'.ownsRow w.heap.size 60 2 v K F)∧Below w.heap.size w w':=fun w hx=>HV.out _ _ (hw.below hx);have HV1:Hid (∀ w,Below w2.heap.size w2 w→Calls Tryz.prog 33 #[.pointer (some ⟨b,0,none⟩),.agg #[.int .i64 y,.int .i64 r]] w fun e w'=>(∃ v,e=.returned (.tuple #[v,.int .i64 E])∧w'.ownsRow w.heap.size 60 2 v K F)∧Below w.heap.size w w'):=hV;have HV2:Hid (∀ w,Below w2.heap.size w2 w→Calls Tryz.prog 33 #[.pointer (some ⟨b,0,none⟩),.agg #[.int .i64 y,.int .i64 r]] w fun e w'=>(∃ v,e=.returned (.tuple #[v,.int .i64 E])∧w'.ownsRow w.heap.size 60 2 v K F)∧Below w.heap.size w w'):=hV;have HV3:Hid (∀ w,Below w2.heap.size w2 w→Calls Tryz.prog 33 #[.pointer (some ⟨b,0,none⟩),.agg #[.int .i64 y,.int .i64 r]] w fun e w'=>(∃ v,e=.returned (.tuple #[v,.int .i64 E])∧w'.ownsRow w.heap.size 60 2 v K F)∧Below w.heap.size w w'):=hV;have HO2:Hid (∀ w,Below w2.heap.size w2 w→Calls Tryz.prog 35 #[.slice av nv cv] w fun e w'=>(∃ b,e=.returned (.pointer (some ⟨b,0,none⟩))∧RAt b cs w')∧Below w.heap.size w w'):=fun w hx=>HO.out _ (bstep B2.out hx);have U2:Hid (w2.heap[W.heap.size]?=some (.cells #[.int .i64 y,.int .i64 r] 60 (0,0))):=uuB.out;have UL:W.heap.size<w2.heap.size:=uuL;have D:Hid (Below w2.heap.size w2 w2):=Below.refl _ _;clear hb HB hw BB HO HV hV)
    | (go_at_call 33;refine (HV1.out _ D.out).mono ?_;rintro e w3 ⟨⟨v9,rfl,ho⟩,hb⟩;obtain ⟨a3,c3,rfl⟩:=ownv ho;have OA:Hid (w3.ownsRow w2.heap.size 60 2 (.slice a3 K c3) K F):=ho;have GA:Hid (∀ k,(Value.slice a3 K c3).ownBlock=some k→w2.heap.size≤k∧k<w3.heap.size):=ho.lt;have uud:=kp2 (n:=W.heap.size) hb (by first|omega|(simp;try omega)) uuB.out;(try clear uuB uu0 uu1 uuf uuL uuN);obtain ⟨uuB,uu0,uu1,uuf,uuL,uuN⟩:=uud;have D2:Below w2.heap.size w2 w3:=bstep D.out hb;clear D;have D:Hid (Below w2.heap.size w2 w3):=D2;clear D2;clear hb ho HV1)
    | (go_at_call 33;refine (HV2.out _ D.out).mono ?_;rintro e w4 ⟨⟨v9,rfl,ho⟩,hb⟩;obtain ⟨a4,c4,rfl⟩:=ownv ho;have OB:Hid (w4.ownsRow w3.heap.size 60 2 (.slice a4 K c4) K F):=ho;have L34:w3.heap.size≤w4.heap.size:=hb.size;have uud:=kp2 (n:=W.heap.size) hb (by first|omega|(simp;try omega)) uuB.out;(try clear uuB uu0 uu1 uuf uuL uuN);obtain ⟨uuB,uu0,uu1,uuf,uuL,uuN⟩:=uud;have Z9:=rowBelow OA.out hb;clear OA;have OA:Hid (w4.ownsRow w2.heap.size 60 2 (.slice a3 K c3) K F):=Z9;clear Z9;have D2:Below w2.heap.size w2 w4:=bstep D.out hb;clear D;have D:Hid (Below w2.heap.size w2 w4):=D2;clear D2;clear hb ho HV2))
  go_cut [10,11] (fun s10 s11 wx=>Hid (∃ a6 c6,s10=.slice a6 K c6∧s11=.int .i64 E∧wx.ownsRow w3.heap.size 60 2 (.slice a6 K c6) K F∧wx.ownsRow w2.heap.size 60 2 (.slice a3 K c3) K F∧wx.ownsRow w3.heap.size 60 2 (.slice a4 K c4) K F∧Below w2.heap.size w2 wx))
  case first =>
    go_region_law (first
      | (refine step_call1 rfl 35 callOf9 (.tmp 41) 22 rfl (.slice av nv cv) (by simp [Act.eval,Act.put]) (HO2.out _ D.out.drew) ?_;rintro e w5 ⟨⟨bx,rfl,hw⟩,hb⟩;refine ⟨_,rfl,?_⟩;have HR:Hid (RAt bx cs w5):=hw;have L35:w3.heap.size≤w5.heap.size:=Nat.le_trans L34 hb.size;have uud:=kp2 (n:=W.heap.size) hb (by first|omega|(simp;try omega)) uuB.out;(try clear uuB uu0 uu1 uuf uuL uuN);obtain ⟨uuB,uu0,uu1,uuf,uuL,uuN⟩:=uud;have Z9:=rowBelow OA.out.drew hb;clear OA;have OA:Hid (w5.ownsRow w2.heap.size 60 2 (.slice a3 K c3) K F):=Z9;clear Z9;have Z9:=rowBelow OB.out.drew hb;clear OB;have OB:Hid (w5.ownsRow w3.heap.size 60 2 (.slice a4 K c4) K F):=Z9;clear Z9;have D2:Below w2.heap.size w2 w5:=bstep D.out.drew hb;clear D;have D:Hid (Below w2.heap.size w2 w5):=D2;clear D2;clear hb HO2 hw)
      | (refine step_call2o rfl 34 callR9a (.tmp 42) (.tmp 43) 44 60 rfl (.pointer (some ⟨bx,0,none⟩)) (.agg #[.int .i64 y,.int .i64 r]) (by simp [Act.eval]) (by simp [Act.eval]) (HX.out _ _ HR.out) ?_;rintro e w6 ⟨⟨v9,rfl,ho⟩,hb⟩;obtain ⟨a6,c6,rfl⟩:=ownv ho;refine ⟨_,rfl,?_⟩;have OC:Hid (w6.ownsRow w3.heap.size 60 2 (.slice a6 K c6) K F):=Go.Joins.ownsRow_le ho L35;have Z9:=rowBelow OA.out hb;clear OA;have OA:Hid (w6.ownsRow w2.heap.size 60 2 (.slice a3 K c3) K F):=Z9;clear Z9;have Z9:=rowBelow OB.out hb;clear OB;have OB:Hid (w6.ownsRow w3.heap.size 60 2 (.slice a4 K c4) K F):=Z9;clear Z9;have D2:Below w2.heap.size w2 w6:=bstep D.out hb;clear D;have D:Hid (Below w2.heap.size w2 w6):=D2;clear D2;clear hb HX ho))
    all_goals (go_wp2_with fail)
    all_goals go_meet
    all_goals exact ⟨_,_,rfl,rfl,OC.out,OA.out,OB.out,D.out⟩
  case rest =>
    obtain ⟨a6,c6,rfl,rfl,hOC,hOA,hOB,hD⟩:=hcut.out
    clear hcut uuB uu0 uu1 uuf uuL uuN OA OB D HO2 HX
    have OA:Hid (wc.ownsRow w2.heap.size 60 2 (.slice a3 K c3) K F):=hOA
    have OB:Hid (wc.ownsRow w3.heap.size 60 2 (.slice a4 K c4) K F):=hOB
    have OC:Hid (wc.ownsRow w3.heap.size 60 2 (.slice a6 K c6) K F):=hOC
    have D:Hid (Below w2.heap.size w2 wc):=hD
    obtain ⟨uuB,uu0,uu1,uuf,uuL,uuN⟩:=kp2 (n:=W.heap.size) hD UL U2.out
    clear hOC hOA hOB hD
    go_wp2_with (first
      | (go_at_call 36;refine (HS1.out _ _ _ _ _ OA.out OC.out).mono ?_;rintro e w7 ⟨rfl,hb⟩;have uud:=kp2 (n:=W.heap.size) hb (by first|omega|(simp;try omega)) uuB.out;(try clear uuB uu0 uu1 uuf uuL uuN);obtain ⟨uuB,uu0,uu1,uuf,uuL,uuN⟩:=uud;have Z9:=rowBelow OA.out hb;clear OA;have OA:Hid (w7.ownsRow w2.heap.size 60 2 (.slice a3 K c3) K F):=Z9;clear Z9;have Z9:=rowBelow OB.out hb;clear OB;have OB:Hid (w7.ownsRow w3.heap.size 60 2 (.slice a4 K c4) K F):=Z9;clear Z9;have Z9:=rowBelow OC.out hb;clear OC;have OC:Hid (w7.ownsRow w3.heap.size 60 2 (.slice a6 K c6) K F):=Z9;clear Z9;have D2:Below w2.heap.size w2 w7:=bstep (by repeat (first|refine Below.setCell ?_ (by simp;try omega) _|refine Below.alloc ?_ (by have:=D.out.size;simp;try omega) _|refine Below.drew ?_|exact D.out)) hb;clear D;have D:Hid (Below w2.heap.size w2 w7):=D2;clear D2;clear hb HS1)
      | (go_at_call 36;refine (HS2.out _ _ _ _ _ OB.out OC.out).mono ?_;rintro e w8 ⟨rfl,hb⟩;have uud:=kp2 (n:=W.heap.size) hb (by first|omega|(simp;try omega)) uuB.out;(try clear uuB uu0 uu1 uuf uuL uuN);obtain ⟨uuB,uu0,uu1,uuf,uuL,uuN⟩:=uud;have Z9:=rowBelow OA.out hb;clear OA;have OA:Hid (w8.ownsRow w2.heap.size 60 2 (.slice a3 K c3) K F):=Z9;clear Z9;have Z9:=rowBelow OB.out hb;clear OB;have OB:Hid (w8.ownsRow w3.heap.size 60 2 (.slice a4 K c4) K F):=Z9;clear Z9;have Z9:=rowBelow OC.out hb;clear OC;have OC:Hid (w8.ownsRow w3.heap.size 60 2 (.slice a6 K c6) K F):=Z9;clear Z9;have D2:Below w2.heap.size w2 w8:=bstep (by repeat (first|refine Below.setCell ?_ (by simp;try omega) _|refine Below.alloc ?_ (by have:=D.out.size;simp;try omega) _|refine Below.drew ?_|exact D.out)) hb;clear D;have D:Hid (Below w2.heap.size w2 w8):=D2;clear D2;clear hb HS2))
    go_loopw [12] (fun iv wr=>∃ i:Nat,iv=.int .i64 i∧i≤K∧Hid ((∃ xs,wr.ownsRow w2.heap.size 60 2 (.slice a3 K c3) K xs)∧wr.ownsRow w3.heap.size 60 2 (.slice a4 K c4) K F∧wr.ownsRow w3.heap.size 60 2 (.slice a6 K c6) K F∧Below w2.heap.size w2 wr)) (fun iv _=>K - (intOf iv).toNat)
    case atStart=>exact ⟨0,rfl,Nat.zero_le _,⟨_,OA.out⟩,OB.out,OC.out,D.out⟩
    case round =>
      obtain ⟨i,rfl,hi,hI⟩:=hrel
      clear uuB uu0 uu1 uuf uuL uuN OA OB OC D
      obtain ⟨⟨xs,h1⟩,h2,h3,h4⟩:=hI.out
      clear hI
      by_cases hlt:i<K
      · have hiI:(i:Int)<(K:Int):=by omega
        obtain ⟨g,cp,hf⟩:=Go.Joins.ownsRow_form h1 (by omega)
        injection hf with e1 _ e2
        subst e1 e2
        obtain ⟨g1,g2⟩:=GA.out g rfl
        have hlen:xs.length=K * 2:=h1.1
        have x0:=(h1.cellAt (i * 2) (by omega)).trans (List.getElem?_eq_getElem (by omega))
        have x1:=(h1.cellAt (i * 2+1) (by omega)).trans (List.getElem?_eq_getElem (by omega))
        generalize xs[i * 2]=y0 at x0
        generalize xs[i * 2+1]=y1 at x1
        have xf:∀ k,wr.frozen? ⟨g,k,none⟩=false:=fun k=>h1.frozenAt k
        have xL:g<wr.heap.size:=(h1.lt g rfl).2
        have NX:Hid ((∃ xs,((wr.setCell ⟨g,i * 2,none⟩ (.int .i64 (-9))).setCell ⟨g,i * 2+1,none⟩ (.int .i64 (-9))).ownsRow w2.heap.size 60 2 (.slice (some ⟨g,0,none⟩) K c3) K xs)∧((wr.setCell ⟨g,i * 2,none⟩ (.int .i64 (-9))).setCell ⟨g,i * 2+1,none⟩ (.int .i64 (-9))).ownsRow w3.heap.size 60 2 (.slice a4 K c4) K F∧((wr.setCell ⟨g,i * 2,none⟩ (.int .i64 (-9))).setCell ⟨g,i * 2+1,none⟩ (.int .i64 (-9))).ownsRow w3.heap.size 60 2 (.slice a6 K c6) K F∧Below w2.heap.size w2 ((wr.setCell ⟨g,i * 2,none⟩ (.int .i64 (-9))).setCell ⟨g,i * 2+1,none⟩ (.int .i64 (-9)))):=by
          have s1:=h1.stored (i * 2) (.int .i64 (-9))
          have s2:=s1.1.stored (i * 2+1) (.int .i64 (-9))
          have gk:∀ k,(Value.slice (some ⟨g,0,none⟩) K c3).ownBlock=some k→k<w3.heap.size:=fun k hk=>(GA.out k hk).2
          exact ⟨⟨_,s2.1⟩,own_apart9 (own_apart9 h2 gk s1.2) gk s2.2,own_apart9 (own_apart9 h3 gk s1.2) gk s2.2,(h4.setCell (by simp;omega) _).setCell (by simp;omega) _⟩
        clear h1 h2 h3 h4 hlen
        go_wp2
        exact ⟨⟨i+1,by simp,by omega,NX.out⟩,by simp [intOf];omega⟩
      · have e:i=K:=by omega
        subst e
        have OA:Hid (wr.ownsRow w2.heap.size 60 2 (.slice a3 i c3) i xs):=h1
        have OB:Hid (wr.ownsRow w3.heap.size 60 2 (.slice a4 i c4) i F):=h2
        have OC:Hid (wr.ownsRow w3.heap.size 60 2 (.slice a6 i c6) i F):=h3
        have D:Hid (Below w2.heap.size w2 wr):=h4
        obtain ⟨uuB,uu0,uu1,uuf,uuL,uuN⟩:=kp2 (n:=W.heap.size) h4 UL U2.out
        clear h1 h2 h3 h4
        go_wp2_with (at_builtin;refine wpList_append_own _ rfl _ _ 70 rfl w2.heap.size 60 i0 (.agg #[.int .i64 0,.int .i64 0]) 2 16 Tryz.underlying70 hi0 hz0 hz1 hz2 rfl (by decide) (.slice a3 i c3) i xs rfl (OA.out.alloc _) ⟨wr.heap.size,0,none⟩ 2 2 [.int .i64 8,.int .i64 0,.int .i64 8,.int .i64 0] rfl rfl ?c1 ?c2 ?c3 ?c4 ?c5 ?_)
        case c1=>exact World.news_of_block (cs:=#[.int .i64 8,.int .i64 0,.int .i64 8,.int .i64 0]) (halloc1 _ _)
        case c2=>intro u hu;simp at hu;rcases hu with rfl|rfl|rfl|rfl <;> rfl
        case c3=>unfold maxLen;omega
        case c4=>omega
        case c5=>have:=D.out.size;simp;omega
        intro v' w9 hown hgrow _
        obtain ⟨a9,c9,rfl⟩:=ownv hown
        have hb:Below w2.heap.size w2 w9:=by
          refine (D.out.alloc D.out.size _).grown hgrow (by have:=D.out.size;simp;omega) (fun z hz=>?_)
          exact (OA.out.lt z hz).1
        have gk:∀ k,(Value.slice a3 i c3).ownBlock=some k→k<w3.heap.size:=fun k hk=>(GA.out k hk).2
        have OB9:=own_apart9 (OB.out.alloc _) gk hgrow
        have OC9:=own_apart9 (OC.out.alloc _) gk hgrow
        clear OA OB OC D uuB uu0 uu1 uuf uuL uuN hown hgrow gk
        have OB:Hid (w9.ownsRow w3.heap.size 60 2 (.slice a4 i c4) i F):=OB9
        have OC:Hid (w9.ownsRow w3.heap.size 60 2 (.slice a6 i c6) i F):=OC9
        have D:Hid (Below w2.heap.size w2 w9):=hb
        obtain ⟨uuB,uu0,uu1,uuf,uuL,uuN⟩:=kp2 (n:=W.heap.size) hb UL U2.out
        clear OB9 OC9 hb
        go_wp2_with (first
          | (go_at_call 33;refine (HV3.out _ D.out).mono ?_;rintro e w10 ⟨⟨v9,rfl,ho⟩,hb⟩;obtain ⟨a10,c10,rfl⟩:=ownv ho;have OD:Hid (w10.ownsRow w9.heap.size 60 2 (.slice a10 i c10) i F):=ho;have uud:=kp2 (n:=W.heap.size) hb (by first|omega|(simp;try omega)) uuB.out;(try clear uuB uu0 uu1 uuf uuL uuN);obtain ⟨uuB,uu0,uu1,uuf,uuL,uuN⟩:=uud;have Z9:=rowBelow OB.out hb;clear OB;have OB:Hid (w10.ownsRow w3.heap.size 60 2 (.slice a4 i c4) i F):=Z9;clear Z9;have Z9:=rowBelow OC.out hb;clear OC;have OC:Hid (w10.ownsRow w3.heap.size 60 2 (.slice a6 i c6) i F):=Z9;clear Z9;have D2:Below w2.heap.size w2 w10:=bstep D.out hb;clear D;have D:Hid (Below w2.heap.size w2 w10):=D2;clear D2;clear hb ho HV3)
          | (go_at_call 36;refine (HS3.out _ _ _ _ _ OB.out OC.out).mono ?_;rintro e w11 ⟨rfl,hb⟩;have uud:=kp2 (n:=W.heap.size) hb (by first|omega|(simp;try omega)) uuB.out;(try clear uuB uu0 uu1 uuf uuL uuN);obtain ⟨uuB,uu0,uu1,uuf,uuL,uuN⟩:=uud;have Z9:=rowBelow OB.out hb;clear OB;have OB:Hid (w11.ownsRow w3.heap.size 60 2 (.slice a4 i c4) i F):=Z9;clear Z9;have Z9:=rowBelow OC.out hb;clear OC;have OC:Hid (w11.ownsRow w3.heap.size 60 2 (.slice a6 i c6) i F):=Z9;clear Z9;have Z9:=rowBelow OD.out hb;clear OD;have OD:Hid (w11.ownsRow w9.heap.size 60 2 (.slice a10 i c10) i F):=Z9;clear Z9;have D2:Below w2.heap.size w2 w11:=bstep (by repeat (first|refine Below.setCell ?_ (by simp;try omega) _|refine Below.alloc ?_ (by have:=D.out.size;simp;try omega) _|refine Below.drew ?_|exact D.out)) hb;clear D;have D:Hid (Below w2.heap.size w2 w11):=D2;clear D2;clear hb HS3)
          | (go_at_call 36;refine (HS4.out _ _ _ _ _ OD.out OC.out).mono ?_;rintro e w12 ⟨rfl,hb⟩;have uud:=kp2 (n:=W.heap.size) hb (by first|omega|(simp;try omega)) uuB.out;(try clear uuB uu0 uu1 uuf uuL uuN);obtain ⟨uuB,uu0,uu1,uuf,uuL,uuN⟩:=uud;have D2:Below w2.heap.size w2 w12:=bstep (by repeat (first|refine Below.setCell ?_ (by simp;try omega) _|refine Below.alloc ?_ (by have:=D.out.size;simp;try omega) _|refine Below.drew ?_|exact D.out)) hb;clear D;have D:Hid (Below w2.heap.size w2 w12):=D2;clear D2;clear hb HS4)
          | (go_at_call 37;refine (HNP.out _).mono ?_;rintro e w13 ⟨rfl,hb⟩;have uud:=kp2 (n:=W.heap.size) hb;(try clear uuB uu0 uu1 uuf uuL uuN);obtain ⟨uuB,uu0,uu1,uuf,uuL,uuN⟩:=uud;have D2:Below w2.heap.size w2 w13:=bstep (by repeat (first|refine Below.setCell ?_ (by simp;try omega) _|refine Below.alloc ?_ (by have:=D.out.size;simp;try omega) _|refine Below.drew ?_|exact D.out)) hb;clear D;have D:Hid (Below w2.heap.size w2 w13):=D2;clear D2;clear hb HNP)
          | (go_at_call 38;refine (HNO.out _).mono ?_;rintro e w14 ⟨rfl,hb⟩;have uud:=kp2 (n:=W.heap.size) hb;(try clear uuB uu0 uu1 uuf uuL uuN);obtain ⟨uuB,uu0,uu1,uuf,uuL,uuN⟩:=uud;have D2:Below w2.heap.size w2 w14:=bstep (by repeat (first|refine Below.setCell ?_ (by simp;try omega) _|refine Below.alloc ?_ (by have:=D.out.size;simp;try omega) _|refine Below.drew ?_|exact D.out)) hb;clear D;have D:Hid (Below w2.heap.size w2 w14):=D2;clear D2;clear hb HNO)
          | (go_at_call 39;refine (HNF.out _).mono ?_;rintro e w15 ⟨rfl,hb⟩;have uud:=kp2 (n:=W.heap.size) hb;(try clear uuB uu0 uu1 uuf uuL uuN);obtain ⟨uuB,uu0,uu1,uuf,uuL,uuN⟩:=uud;have D2:Below w2.heap.size w2 w15:=bstep (by repeat (first|refine Below.setCell ?_ (by simp;try omega) _|refine Below.alloc ?_ (by have:=D.out.size;simp;try omega) _|refine Below.drew ?_|exact D.out)) hb;clear D;have D:Hid (Below w2.heap.size w2 w15):=D2;clear D2;clear hb HNF)
          | (go_at_call 33;refine (HNA.out _).mono ?_;rintro e w16 ⟨rfl,hb⟩;have uud:=kp2 (n:=W.heap.size) hb;(try clear uuB uu0 uu1 uuf uuL uuN);obtain ⟨uuB,uu0,uu1,uuf,uuL,uuN⟩:=uud;have D2:Below w2.heap.size w2 w16:=bstep (by repeat (first|refine Below.setCell ?_ (by simp;try omega) _|refine Below.alloc ?_ (by have:=D.out.size;simp;try omega) _|refine Below.drew ?_|exact D.out)) hb;clear D;have D:Hid (Below w2.heap.size w2 w16):=D2;clear D2;clear hb HNA))
        all_goals go_ret
        all_goals exact ⟨retB (by simp [*]),bstep B2.out (by repeat (first|refine Below.setCell ?_ (by simp;try omega) _|refine Below.alloc ?_ (by have:=D.out.size;simp;try omega) _|refine Below.drew ?_|exact D.out))⟩
theorem OverrideKeeps_any (v:Value) (l:List Cls) (y r:Int) (W:World) (h:IsClss W v l):Calls Tryz.prog 5 #[v,.agg #[.int .i64 y,.int .i64 r]] W fun e w'=>e=.returned (.bool true)∧Below W.heap.size W w':=by
  have hCW:=clss_w h
  obtain ⟨hWI,hWJ⟩:=wld_wj l hCW
  have hT:=twW l hCW
  have hS:=sndI_wld l hCW
  have hU:=unqM_wld l hCW
  have hz:=hT.tw.sz hT.wi
  obtain ⟨av,nv,cv,rfl⟩:∃ a n c,v=.slice a n c:=by
    obtain ⟨ao,cap,e,_⟩:=h
    exact ⟨_,_,_,e⟩
  generalize hps:wld l=ps at hT hS hU hWI hWJ
  generalize hcs:wldC l=cs at hT hz
  have hLb:=alvE_len hWI (y,r)
  refine okeeps_w ps cs W av nv cv y r (alvE ps (y,r)).2 (alvE ps (y,r)).1.length (flatD (alvE ps (y,r)).1) (by omega) (fun w hb=>?_) (fun w hb=>?_) (fun b w hw=>oall_c hw hWI hU y r) (fun b w hw=>r9All_c hw hT hWJ hS hU hz y r) (fun N1 N2 v1 v2 w h1 h2=>sameIDs_eq N1 N2 _ v1 v2 w h1 h2 (by omega))
  · have:=built9_c _ l w (clss_kp h hb)
    rw [hps] at this
    exact this
  · have:=of_c _ l w (clss_kp h hb)
    rw [hcs] at this
    exact this
end Go.Proofs.YtfjekhmnjfcbeaaGreat
