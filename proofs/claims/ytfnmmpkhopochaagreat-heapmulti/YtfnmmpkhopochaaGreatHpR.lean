import Derived.Test.YtfnmmpkhopochaaGreatHpT
import Derived.Test.YtfnmmpkhopochaaGreatHpJ
import Derived.Test.YtfnmmpkhopochaaGreatFOwnA
import Derived.Test.YtfnmmpkhopochaaGreatSoD
import Derived.Deep.RegionHeld3
import Derived.Deep.LoopGhost
set_option maxRecDepth 100000
namespace Go.Proofs.YtfnmmpkhopochaaGreat
open Go.RowKit Go.Maps
theorem isOverInt_c (d:Int) (s:ByteArray) (W:World):Calls Tryz.prog 71 #[.agg #[.int .i64 d,.string s]] W fun e w'=>e=.returned (.bool s.toList.isEmpty)∧Below W.heap.size W w':=by
  cases he:s.toList.isEmpty
  all_goals
    go_enter Tryz.func71,Tryz.ntmps71
    go_wp2
    go_ret
    exact ⟨by first|rfl|simp_all,(by repeat (first|exact Below.refl _ _|refine Below.setCell ?_ (by simp;try omega) _|refine Below.alloc ?_ (by simp;try omega) _|refine Below.drew ?_))⟩
def ldI (ps:List Plc) (d:Int) (s:ByteArray):Int:=if sndB d s.data.toList then (if s.toList.isEmpty then 0 else match lookL ps s.data.toList with
  | some _=>0
  | none=>20) else 1
theorem loaded_c {b:Nat} {ps:List Plc} {W:World} (h:WAt b ps W) (d:Int) (s:ByteArray) (hs:s.size≤maxLen):Calls Tryz.prog 39 #[.pointer (some ⟨b,0,none⟩),.agg #[.int .i64 d,.string s]] W fun e w'=>e=.returned (.int .i64 (ldI ps d s))∧Below W.heap.size W w':=by
  have HC:Hid (∀ w:World,Calls Tryz.prog 70 #[.agg #[.int .i64 d,.string s]] w fun e w'=>e=.returned (.int .i64 (chkI (sndB d s.data.toList)))∧Below w.heap.size w w'):=tyCheck_any d s hs
  have HO:Hid (∀ w:World,Calls Tryz.prog 71 #[.agg #[.int .i64 d,.string s]] w fun e w'=>e=.returned (.bool s.toList.isEmpty)∧Below w.heap.size w w'):=isOverInt_c d s
  have HN:Hid (∀ w:World,Below W.heap.size W w→Calls Tryz.prog 72 #[.pointer (some ⟨b,0,none⟩),.string s] w fun e w'=>e=.returned (bnV (lookL ps s.data.toList))∧Below w.heap.size w w'):=fun w hb=>byName_c (h.below hb) s hs
  obtain ⟨R,hR⟩:∃ R,ldI ps d s=R:=⟨_,rfl⟩
  rw [hR]
  have HR:Hid (ldI ps d s=R):=hR
  clear hR h
  unfold ldI at HR
  generalize sndB d s.data.toList=sn at *
  generalize s.toList.isEmpty=em at *
  generalize lookL ps s.data.toList=lk at *
  cases sn with
  | false =>
    have e:chkI false=1:=rfl
    rw [e] at HC
    have HS:Hid (R=1):=HR.out.symm
    clear HR
    go_enter Tryz.func39,Tryz.ntmps39
    go_wp2_with (go_at_call 70;refine (HC.out _).mono ?_;rintro e w1 ⟨rfl,hb⟩;have B1:Hid (Below W.heap.size W w1):=bstep (by repeat (first|exact Below.refl _ _|refine Below.setCell ?_ (by simp;try omega) _|refine Below.alloc ?_ (by simp;try omega) _|refine Below.drew ?_)) hb;clear hb HC)
    exact bodyPost_ret (results_tmp rfl _ _ _) rfl ⟨by rw [HS.out];rfl,B1.out⟩
  | true =>
    have e:chkI true=0:=rfl
    rw [e] at HC
    cases em with
    | true =>
      have HS:Hid (R=0):=HR.out.symm
      clear HR
      go_enter Tryz.func39,Tryz.ntmps39
      go_wp2_with (first
        | (go_at_call 70;refine (HC.out _).mono ?_;rintro e w1 ⟨rfl,hb⟩;have h0:=(hb.block W.heap.size (by simp)).trans (halloc1 W _);have r0:=cell_of_row w1 W.heap.size 0 _ _ _ h0;have r1:=cell_of_row w1 W.heap.size 1 _ _ _ h0;simp only [List.getElem?_toArray,List.getElem?_cons_zero,List.getElem?_cons_succ] at r0 r1;have B1:Hid (Below W.heap.size W w1):=bstep (by repeat (first|exact Below.refl _ _|refine Below.setCell ?_ (by simp;try omega) _|refine Below.alloc ?_ (by simp;try omega) _|refine Below.drew ?_)) hb;clear hb HC h0)
        | (go_at_call 71;refine (HO.out _).mono ?_;rintro e w2 ⟨rfl,hb⟩;have B2:Hid (Below W.heap.size W w2):=bstep B1.out hb;clear hb HO))
      exact bodyPost_ret (results_tmp rfl _ _ _) rfl ⟨by rw [HS.out];rfl,B2.out⟩
    | false =>
      cases lk
      all_goals
        first|have HS:Hid (R=20):=HR.out.symm|have HS:Hid (R=0):=HR.out.symm
        clear HR
        simp only [bnV] at HN
        go_enter Tryz.func39,Tryz.ntmps39
        go_wp2_with (first
          | (go_at_call 70;refine (HC.out _).mono ?_;rintro e w1 ⟨rfl,hb⟩;have h0:=(hb.block W.heap.size (by simp)).trans (halloc1 W _);have r0:=cell_of_row w1 W.heap.size 0 _ _ _ h0;have r1:=cell_of_row w1 W.heap.size 1 _ _ _ h0;simp only [List.getElem?_toArray,List.getElem?_cons_zero,List.getElem?_cons_succ] at r0 r1;have hl:W.heap.size<w1.heap.size:=(Array.getElem?_eq_some_iff.1 h0).1;have B1:Hid (Below W.heap.size W w1):=bstep (by repeat (first|exact Below.refl _ _|refine Below.setCell ?_ (by simp;try omega) _|refine Below.alloc ?_ (by simp;try omega) _|refine Below.drew ?_)) hb;clear hb HC h0)
          | (go_at_call 71;refine (HO.out _).mono ?_;rintro e w2 ⟨rfl,hb⟩;have B2:Hid (Below W.heap.size W w2):=bstep B1.out hb;replace r0:=(hb.cell (p:=⟨W.heap.size,0,none⟩) hl).trans r0;replace r1:=(hb.cell (p:=⟨W.heap.size,1,none⟩) hl).trans r1;clear hb HO)
          | (go_at_call 72;refine (HN.out _ B2.out).mono ?_;rintro e w3 ⟨rfl,hb⟩;have B3:Hid (Below W.heap.size W w3):=bstep B2.out hb;clear hb HN))
        exact bodyPost_ret (results_tmp rfl _ _ _) rfl ⟨by rw [HS.out];rfl,B3.out⟩
theorem ld_facts {ps:List Plc} {x:Int} {s:ByteArray} (h:ldI ps x s=0):0≤x∧x≤255∧(s.toList.isEmpty=false→∃ k,lookL ps s.data.toList=some k):=by
  unfold ldI at h
  cases hs:sndB x s.data.toList with
  | false=>rw [hs] at h;revert h;simp
  | true =>
    rw [hs] at h
    have hs2:=hs
    unfold sndB at hs2
    simp only [Bool.and_eq_true,decide_eq_true_eq] at hs2
    refine ⟨hs2.1.1,hs2.1.2,fun he=>?_⟩
    rw [he] at h
    cases hl:lookL ps s.data.toList with
    | some k=>exact ⟨k,rfl⟩
    | none=>rw [hl] at h;revert h;simp
def filE (os:List Ob) (xs:List Int):Int:=if negB xs then 30 else if rmB os (xs.map Int.toNat) then 0 else 32
def filN (os:List Ob) (xs:List Int):Int:=if filE os xs=0 then (os.length:Int)+1 else 0
def filL (os:List Ob) (d:Int) (nm:ByteArray) (xs:List Int):List PO:=if filE os xs=0 then filP nm d (xs.map Int.toNat) os.length else []
theorem neg_nat:∀ {xs:List Int},negB xs=false→xs=natI (xs.map Int.toNat)
  | [],_=>rfl
  | x::r,h=>by
    simp only [negB,List.any_cons,Bool.or_eq_false_iff,decide_eq_false_iff_not] at h
    have:=neg_nat (xs:=r) h.2
    rw [List.map_cons,natI,List.map_cons,show ((x.toNat:Nat):Int)=x by omega]
    congr 1
theorem fill_c {W:World} {S:Nat→Prop} {hb b:Nat} {ov:Value} {os:List Ob} (h:HpAt W S hb b ov os) {g o cap n:Nat} {xs:List Int} (HN:xs.length=n) (hn0:0<n) (hn9:n≤1000000) (hcap:n≤cap) (d:Nat) (nm:ByteArray) (hz:nm.size≤maxLen) (hsn:sndB (d:Int) nm.data.toList=true) (hd:n≤d) (HX:IsAt W g o xs) (hSg:¬ S g) :
    Calls Tryz.prog 40 #[.pointer (some ⟨hb,0,none⟩),.agg #[.int .i64 (d:Int),.string nm],.slice (some ⟨g,o,none⟩) n cap] W fun e w'=>e=.returned (.tuple #[.int .i64 (filN os xs),.int .i64 (filE os xs)])∧∃ new,HpN S W w' hb b (os++new)∧new.map Ob.p=filL os (d:Int) nm xs:=by
  cases hg:negB xs with
  | true =>
    have e1:filE os xs=30:=by rw [filE,hg];rfl
    have e2:filN os xs=0:=by rw [filN,e1];rfl
    have e3:filL os (d:Int) nm xs=[]:=by rw [filL,e1];rfl
    rw [e1,e2,e3]
    exact (fill_neg HN hn9 (d:Int) nm HX hg).mono fun e w' ⟨h1,h2⟩=>⟨h1,[],by rw [List.append_nil];exact h.stay h2,rfl⟩
  | false =>
    have hx:=neg_nat hg
    obtain ⟨c,cs,hcs⟩:∃ c cs,xs.map Int.toNat=c::cs:=by
      cases e:xs with
      | nil=>rw [e] at HN;simp at HN;omega
      | cons y r=>exact ⟨_,_,rfl⟩
    have hl:cs.length+1=n:=by rw [← HN,← List.length_map (f:=Int.toNat),hcs];simp
    rw [hx,hcs] at HX
    cases hr:rmB os (xs.map Int.toNat) with
    | false =>
      have e1:filE os xs=32:=by rw [filE,hg,hr];rfl
      have e2:filN os xs=0:=by rw [filN,e1];rfl
      have e3:filL os (d:Int) nm xs=[]:=by rw [filL,e1];rfl
      rw [e1,e2,e3]
      rw [hcs] at hr
      exact (fill_no h hl hn9 d nm HX hr).mono fun e w' ⟨h1,h2⟩=>⟨h1,[],by rw [List.append_nil];exact h.stay h2,rfl⟩
    | true =>
      have e1:filE os xs=0:=by rw [filE,hg,hr];rfl
      have e2:filN os xs=(os.length:Int)+1:=by rw [filN,e1];rfl
      have e3:filL os (d:Int) nm xs=filP nm (d:Int) (c::cs) os.length:=by rw [filL,e1,hcs];rfl
      rw [e1,e2,e3]
      rw [hcs] at hr
      exact fill_yes h hl hn9 hcap d nm hz hsn hd HX hSg hr
def aryE (ps:List Plc) (os:List Ob) (d:Int) (nm:ByteArray) (n:Int):Int:=if arrE d nm.data.toList=0 then (if ldI ps d nm=0 then filE os [n] else ldI ps d nm) else arrE d nm.data.toList
def aryN (ps:List Plc) (os:List Ob) (d:Int) (nm:ByteArray) (n:Int):Int:=if aryE ps os d nm n=0 then (os.length:Int)+1 else 0
def aryL (ps:List Plc) (os:List Ob) (d:Int) (nm:ByteArray) (n:Int):List PO:=if aryE ps os d nm n=0 then [(d+1,nm,List.replicate n.toNat 0)] else []
set_option maxHeartbeats 1000000 in
theorem array_1 {W:World} {hb:Nat} (d d' E n:Int) (nm nm':ByteArray) (hE:¬ E=0) (HA:Hid (∀ w:World,Calls Tryz.prog 38 #[.agg #[.int .i64 d,.string nm]] w fun e w'=>e=.returned (.tuple #[.agg #[.int .i64 d',.string nm'],.int .i64 E])∧Below w.heap.size w w')) :
    Calls Tryz.prog 13 #[.pointer (some ⟨hb,0,none⟩),.agg #[.int .i64 d,.string nm],.int .i64 n] W fun e w'=>e=.returned (.tuple #[.int .i64 0,.int .i64 E])∧Below W.heap.size W w':=by
  have B0:Hid (Below W.heap.size W (W.alloc (.cells #[.int .i64 d,.string nm] 40))):=(Below.refl _ _).alloc (Nat.le_refl _) _
  go_enter Tryz.func13,Tryz.ntmps13
  go_wp2_with (go_at_call 38;refine (HA.out _).mono ?_;rintro e w1 ⟨rfl,hB⟩;have B1:Hid (Below W.heap.size W w1):=bstep B0.out hB;clear hB HA)
  go_ret2
  exact ⟨rfl,B1.out.alloc B1.out.size _⟩
theorem callLd (vs:Array Value) (w:World):(callFunc 39 vs).run Tryz.prog w=.ok (.enter 39 vs) w:=by simp [go_sem]
theorem stp2h {P:Program} {ops:Array Oper} {o:Oper} {a:Act} {w:World} {K:Act→World→Prop} {Q:Exit→Act→World→Prop} {E:Prop} (hg:o.guard=none) (f:Nat) (hf:∀ (vs:Array Value) (w:World),(callFunc f vs).run P w=.ok (.enter f vs) w) (x1 x2:Operand) (t1 t2:TypeId)
    (hop:o.op=Op.call { callee:=Callee.value (Operand.func f),args:=#[x1,x2],argTypes:=#[t1,t2] }) {R:Ending→World→Prop} (v1 v2:Value) (hv1:a.eval x1=v1) (hv2:a.eval x2=v2) (h:Calls P f #[v1,v2] w R) (hR:∀ e w',R e w'→∃ u,e=.returned u∧K (a.put o.dst u) w') :
    if Region.wanted o (yielded ops a.tmps)=true then Oper.wp P o a w K Q else E:=by
  have hw:Region.wanted o (yielded ops a.tmps)=true:=by simp [Region.wanted,hg]
  rw [if_pos hw]
  unfold Oper.wp
  have e:(execOp a.eval o).run P w=.ok (.enter f #[v1,v2]) w:=by
    simp [execOp,hop,resolve,invoke,hv1,hv2]
    simp [go_sem,hf]
  rw [e]
  refine h.mono fun e w' hr=>?_
  obtain ⟨u,rfl,hu⟩:=hR e w' hr
  exact hu
set_option maxHeartbeats 1000000 in
theorem array_2 {W:World} {hb b:Nat} (d d' E n:Int) (nm nm':ByteArray) (hE:¬ E=0) (c0:W.cell? ⟨hb,0,none⟩=some (.pointer (some ⟨b,0,none⟩))) (HA:Hid (∀ w:World,Calls Tryz.prog 38 #[.agg #[.int .i64 d,.string nm]] w fun e w'=>e=.returned (.tuple #[.agg #[.int .i64 d',.string nm'],.int .i64 0])∧Below w.heap.size w w'))
    (HL:Hid (∀ w,Below W.heap.size W w→Calls Tryz.prog 39 #[.pointer (some ⟨b,0,none⟩),.agg #[.int .i64 d,.string nm]] w fun e w'=>e=.returned (.int .i64 E)∧Below w.heap.size w w')) :
    Calls Tryz.prog 13 #[.pointer (some ⟨hb,0,none⟩),.agg #[.int .i64 d,.string nm],.int .i64 n] W fun e w'=>e=.returned (.tuple #[.int .i64 0,.int .i64 E])∧Below W.heap.size W w':=by
  have hl:hb<W.heap.size:=World.block_lt_of_cell? W _ c0
  have B0:Hid (Below W.heap.size W (W.alloc (.cells #[.int .i64 d,.string nm] 40))):=(Below.refl _ _).alloc (Nat.le_refl _) _
  go_enter Tryz.func13,Tryz.ntmps13
  go_upto_region 6 with (go_at_call 38;refine (HA.out _).mono ?_;rintro e w1 ⟨rfl,hB⟩;have B1:Hid (Below W.heap.size W w1):=bstep B0.out hB;obtain ⟨zB,z0,z1,zf,zL,zN⟩:=k2c (n:=W.heap.size) hB;have y0:w1.cell? ⟨hb,0,none⟩=some (.pointer (some ⟨b,0,none⟩)):=(B1.out.cell (p:=⟨hb,0,none⟩) hl).trans c0;have yl:hb<w1.heap.size:=(by omega);have yn:¬ hb=w1.heap.size:=(by omega);clear hB HA)
  go_region_law (refine stp2h rfl 39 callLd (.tmp 24) (.tmp 25) 25 40 rfl (.pointer (some ⟨b,0,none⟩)) (.agg #[.int .i64 d,.string nm]) (by first|(simp [Act.eval];done)|(simp [Act.eval,Act.put];done)) (by first|(simp [Act.eval];done)|(simp [Act.eval,Act.put];done)) (HL.out _ ((B1.out.alloc B1.out.size _).drew)) ?_;rintro e w3 ⟨rfl,hB⟩;refine ⟨_,rfl,?_⟩;have B3:Hid (Below W.heap.size W w3):=bstep ((B1.out.alloc B1.out.size _).drew) hB;clear hB)
  all_goals go_wp2
  all_goals go_ret2
  all_goals exact ⟨rfl,B3.out⟩
set_option maxHeartbeats 1000000 in
theorem array_3 {W:World} {hb b:Nat} (d d' n N E:Int) (nm:ByteArray) {R:World→Prop} (c0:W.cell? ⟨hb,0,none⟩=some (.pointer (some ⟨b,0,none⟩))) (HA:Hid (∀ w:World,Calls Tryz.prog 38 #[.agg #[.int .i64 d,.string nm]] w fun e w'=>e=.returned (.tuple #[.agg #[.int .i64 d',.string nm],.int .i64 0])∧Below w.heap.size w w'))
    (HL:Hid (∀ w,Below W.heap.size W w→Calls Tryz.prog 39 #[.pointer (some ⟨b,0,none⟩),.agg #[.int .i64 d,.string nm]] w fun e w'=>e=.returned (.int .i64 0)∧Below w.heap.size w w'))
    (HF:Hid (∀ w g,Below W.heap.size W w→W.heap.size≤g→w.cell? ⟨g,0,none⟩=some (.int .i64 n)→Calls Tryz.prog 40 #[.pointer (some ⟨hb,0,none⟩),.agg #[.int .i64 d',.string nm],.slice (some ⟨g,0,none⟩) 1 1] w fun e w'=>e=.returned (.tuple #[.int .i64 N,.int .i64 E])∧R w')) :
    Calls Tryz.prog 13 #[.pointer (some ⟨hb,0,none⟩),.agg #[.int .i64 d,.string nm],.int .i64 n] W fun e w'=>e=.returned (.tuple #[.int .i64 N,.int .i64 E])∧R w':=by
  have hl:hb<W.heap.size:=World.block_lt_of_cell? W _ c0
  have B0:Hid (Below W.heap.size W (W.alloc (.cells #[.int .i64 d,.string nm] 40))):=(Below.refl _ _).alloc (Nat.le_refl _) _
  go_enter Tryz.func13,Tryz.ntmps13
  go_upto_region 6 with (go_at_call 38;refine (HA.out _).mono ?_;rintro e w1 ⟨rfl,hB⟩;have B1:Hid (Below W.heap.size W w1):=bstep B0.out hB;obtain ⟨zB,z0,z1,zf,zL,zN⟩:=k2c (n:=W.heap.size) hB;have y0:w1.cell? ⟨hb,0,none⟩=some (.pointer (some ⟨b,0,none⟩)):=(B1.out.cell (p:=⟨hb,0,none⟩) hl).trans c0;have yl:hb<w1.heap.size:=(by omega);have yn:¬ hb=w1.heap.size:=(by omega);clear hB HA)
  go_region_law (refine stp2h rfl 39 callLd (.tmp 24) (.tmp 25) 25 40 rfl (.pointer (some ⟨b,0,none⟩)) (.agg #[.int .i64 d,.string nm]) (by first|(simp [Act.eval];done)|(simp [Act.eval,Act.put];done)) (by first|(simp [Act.eval];done)|(simp [Act.eval,Act.put];done)) (HL.out _ ((B1.out.alloc B1.out.size _).drew)) ?_;rintro e w3 ⟨rfl,hB⟩;refine ⟨_,rfl,?_⟩;have B3:Hid (Below W.heap.size W w3):=bstep ((B1.out.alloc B1.out.size _).drew) hB;have B4:Hid (Below (w1.heap.size+1) (w1.alloc (.cells #[.int .i64 d',.string nm] 40)) w3):=(by rw [Hid];have h1:Below (w1.alloc (.cells #[.int .i64 d',.string nm] 40)).heap.size (w1.alloc (.cells #[.int .i64 d',.string nm] 40)) w3:=(Below.refl _ _).drew.trans hB;simpa using h1);obtain ⟨xB,x0,x1,xf,xL,xN⟩:=k2c (n:=w1.heap.size) B4.out (by omega) (halloc1 _ _);clear hB)
  all_goals go_wp2_with (go_at_call 40;refine (HF.out _ w3.heap.size (B3.out.alloc B3.out.size _) B3.out.size (r1c (halloc1 _ _)).1).mono ?_;rintro e w4 ⟨rfl,hx⟩;have R4:Hid (R w4):=hx;clear hx)
  all_goals go_ret2
  all_goals exact ⟨rfl,R4.out⟩
theorem arr_E0 {d:Int} {l:List UInt8} (h:arrE d l=0):∃ k:Nat,d=(k:Int)∧sndB ((k+1:Nat):Int) l=true:=by
  unfold arrE at h
  cases hs:sndB d l with
  | false=>rw [hs] at h;revert h;simp
  | true =>
    rw [hs] at h
    simp only [if_true] at h
    split at h
    · cases h
    · rename_i h5
      unfold sndB at hs
      simp only [Bool.and_eq_true,decide_eq_true_eq] at hs
      refine ⟨d.toNat,by omega,?_⟩
      unfold sndB
      simp only [Bool.and_eq_true,decide_eq_true_eq]
      exact ⟨⟨by omega,by omega⟩,hs.2⟩
theorem fil_one (os:List Ob) (d:Int) (nm:ByteArray) (n:Int):filL os d nm [n]=if filE os [n]=0 then [(d,nm,List.replicate n.toNat 0)] else []:=by
  unfold filL
  split
  · rw [List.map_cons,List.map_nil,filP_one]
  · rfl
theorem array_c {W:World} {S:Nat→Prop} {hb b:Nat} {ov:Value} {os:List Ob} (h:HpAt W S hb b ov os) {ps:List Plc} (hw:WAt b ps W) (d:Int) (nm:ByteArray) (hz:nm.size≤maxLen) (n:Int) :
    Calls Tryz.prog 13 #[.pointer (some ⟨hb,0,none⟩),.agg #[.int .i64 d,.string nm],.int .i64 n] W fun e w'=>e=.returned (.tuple #[.int .i64 (aryN ps os d nm n),.int .i64 (aryE ps os d nm n)])∧∃ new,HpN S W w' hb b (os++new)∧new.map Ob.p=aryL ps os d nm n:=by
  have HA:=arrayOf_any d nm hz
  have HL:∀ w,Below W.heap.size W w→Calls Tryz.prog 39 #[.pointer (some ⟨b,0,none⟩),.agg #[.int .i64 d,.string nm]] w fun e w'=>e=.returned (.int .i64 (ldI ps d nm))∧Below w.heap.size w w':=fun w hl=>loaded_c (hw.below hl) d nm hz
  have c0:=h.cells.1
  by_cases e1:arrE d nm.data.toList=0
  · rw [e1] at HA
    simp only [outD,outS,if_true] at HA
    by_cases e2:ldI ps d nm=0
    · rw [e2] at HL
      obtain ⟨k,rfl,hsn⟩:=arr_E0 e1
      have q1:aryE ps os (k:Int) nm n=filE os [n]:=by rw [aryE,if_pos e1,if_pos e2]
      have q2:aryN ps os (k:Int) nm n=filN os [n]:=by rw [aryN,q1];rfl
      have q3:aryL ps os (k:Int) nm n=filL os ((k+1:Nat):Int) nm [n]:=by rw [aryL,q1,fil_one];rfl
      rw [q1,q2,q3]
      refine array_3 (k:Int) ((k+1:Nat):Int) n _ _ nm c0 HA HL (fun w g hl hg hc=>?_)
      have hl2:=hl.size
      refine (fill_c (h.below hl) (xs:=[n]) (n:=1) (o:=0) rfl (by omega) (by omega) (Nat.le_refl _) (k+1) nm hz hsn (by omega) (fun i x hx=>?_) (fun x=>by have:=h.sz _ x;omega)).mono fun e w' ⟨a1,new,a2,a3⟩=>⟨a1,new,a2.pre hl,a3⟩
      cases i with
      | zero=>simp at hx;subst hx;exact hc
      | succ i=>simp at hx
    · have q1:aryE ps os d nm n=ldI ps d nm:=by rw [aryE,if_pos e1,if_neg e2]
      have q2:aryN ps os d nm n=0:=by rw [aryN,q1,if_neg e2]
      have q3:aryL ps os d nm n=[]:=by rw [aryL,q1,if_neg e2]
      rw [q1,q2,q3]
      exact (array_2 d _ _ n nm _ e2 c0 HA HL).mono fun e w' ⟨a1,a2⟩=>⟨a1,[],by rw [List.append_nil];exact h.stay a2,rfl⟩
  · have q1:aryE ps os d nm n=arrE d nm.data.toList:=by rw [aryE,if_neg e1]
    have q2:aryN ps os d nm n=0:=by rw [aryN,q1,if_neg e1]
    have q3:aryL ps os d nm n=[]:=by rw [aryL,q1,if_neg e1]
    rw [q1,q2,q3]
    exact (array_1 d _ _ n nm _ e1 HA).mono fun e w' ⟨a1,a2⟩=>⟨a1,[],by rw [List.append_nil];exact h.stay a2,rfl⟩
def mulE (ps:List Plc) (os:List Ob) (d:Int) (nm:ByteArray) (xs:List Int):Int:=if ldI ps d nm=0 then (if xs.length=0∨d<(xs.length:Int) then 2 else filE os xs) else ldI ps d nm
def mulN (ps:List Plc) (os:List Ob) (d:Int) (nm:ByteArray) (xs:List Int):Int:=if mulE ps os d nm xs=0 then (os.length:Int)+1 else 0
def mulL (ps:List Plc) (os:List Ob) (d:Int) (nm:ByteArray) (xs:List Int):List PO:=if mulE ps os d nm xs=0 then filP nm d (xs.map Int.toNat) os.length else []
set_option maxHeartbeats 1000000 in
theorem multi_1 {W:World} {hb b:Nat} (d E:Int) (nm:ByteArray) (v:Value) (hE:¬ E=0) (c0:W.cell? ⟨hb,0,none⟩=some (.pointer (some ⟨b,0,none⟩)))
    (HL:Hid (∀ w,Below W.heap.size W w→Calls Tryz.prog 39 #[.pointer (some ⟨b,0,none⟩),.agg #[.int .i64 d,.string nm]] w fun e w'=>e=.returned (.int .i64 E)∧Below w.heap.size w w')) :
    Calls Tryz.prog 20 #[.pointer (some ⟨hb,0,none⟩),.agg #[.int .i64 d,.string nm],v] W fun e w'=>e=.returned (.tuple #[.int .i64 0,.int .i64 E])∧Below W.heap.size W w':=by
  have hl:hb<W.heap.size:=World.block_lt_of_cell? W _ c0
  have hn:¬ hb=W.heap.size:=by omega
  have B0:Hid (Below W.heap.size W (W.alloc (.cells #[.int .i64 d,.string nm] 40))):=(Below.refl _ _).alloc (Nat.le_refl _) _
  go_enter Tryz.func20,Tryz.ntmps20
  go_upto_region 3 with fail
  go_region_law (refine stp2h rfl 39 callLd (.tmp 14) (.tmp 15) 25 40 rfl (.pointer (some ⟨b,0,none⟩)) (.agg #[.int .i64 d,.string nm]) (by first|(simp [Act.eval];done)|(simp [Act.eval,Act.put];done)) (by first|(simp [Act.eval];done)|(simp [Act.eval,Act.put];done)) (HL.out _ B0.out.drew) ?_;rintro e w3 ⟨rfl,hB⟩;refine ⟨_,rfl,?_⟩;have B3:Hid (Below W.heap.size W w3):=bstep B0.out.drew hB;clear hB)
  all_goals go_wp2
  all_goals go_ret2
  all_goals exact ⟨rfl,B3.out⟩
set_option maxHeartbeats 1000000 in
theorem multi_2 {W:World} {hb b:Nat} (d:Int) (nm:ByteArray) (a:Option Addr) (n cap:Nat) (hn9:n=0∨d<(n:Int)) (c0:W.cell? ⟨hb,0,none⟩=some (.pointer (some ⟨b,0,none⟩)))
    (HL:Hid (∀ w,Below W.heap.size W w→Calls Tryz.prog 39 #[.pointer (some ⟨b,0,none⟩),.agg #[.int .i64 d,.string nm]] w fun e w'=>e=.returned (.int .i64 0)∧Below w.heap.size w w')) :
    Calls Tryz.prog 20 #[.pointer (some ⟨hb,0,none⟩),.agg #[.int .i64 d,.string nm],.slice a n cap] W fun e w'=>e=.returned (.tuple #[.int .i64 0,.int .i64 2])∧Below W.heap.size W w':=by
  have hl:hb<W.heap.size:=World.block_lt_of_cell? W _ c0
  have hn:¬ hb=W.heap.size:=by omega
  have B0:Hid (Below W.heap.size W (W.alloc (.cells #[.int .i64 d,.string nm] 40))):=(Below.refl _ _).alloc (Nat.le_refl _) _
  have fin:(n:Int)=0∨(¬ (n:Int)=0∧d<(n:Int)):=by omega
  clear hn9
  rcases fin with h1|⟨h1,h2⟩
  all_goals
    go_enter Tryz.func20,Tryz.ntmps20
    go_upto_region 3 with fail
    go_region_law (refine stp2h rfl 39 callLd (.tmp 14) (.tmp 15) 25 40 rfl (.pointer (some ⟨b,0,none⟩)) (.agg #[.int .i64 d,.string nm]) (by first|(simp [Act.eval];done)|(simp [Act.eval,Act.put];done)) (by first|(simp [Act.eval];done)|(simp [Act.eval,Act.put];done)) (HL.out _ B0.out.drew) ?_;rintro e w3 ⟨rfl,hB⟩;refine ⟨_,rfl,?_⟩;have B3:Hid (Below W.heap.size W w3):=bstep B0.out.drew hB;have B4:Hid (Below (W.alloc (.cells #[.int .i64 d,.string nm] 40)).heap.size (W.alloc (.cells #[.int .i64 d,.string nm] 40)) w3):=(Below.refl _ _).drew.trans hB;obtain ⟨xB,x0,x1,xf,xL,xN⟩:=k2c (n:=W.heap.size) B4.out (by simp) (halloc1 _ _);clear hB)
    all_goals go_wp2
    all_goals go_ret2
    all_goals exact ⟨rfl,B3.out⟩
set_option maxHeartbeats 1000000 in
theorem multi_3 {W:World} {hb b:Nat} (d N E:Int) (nm:ByteArray) (a:Option Addr) (n cap:Nat) {R:World→Prop} (h1:¬ n=0) (h2:(n:Int)≤d) (c0:W.cell? ⟨hb,0,none⟩=some (.pointer (some ⟨b,0,none⟩)))
    (HL:Hid (∀ w,Below W.heap.size W w→Calls Tryz.prog 39 #[.pointer (some ⟨b,0,none⟩),.agg #[.int .i64 d,.string nm]] w fun e w'=>e=.returned (.int .i64 0)∧Below w.heap.size w w'))
    (HF:Hid (∀ w,Below W.heap.size W w→Calls Tryz.prog 40 #[.pointer (some ⟨hb,0,none⟩),.agg #[.int .i64 d,.string nm],.slice a n cap] w fun e w'=>e=.returned (.tuple #[.int .i64 N,.int .i64 E])∧R w')) :
    Calls Tryz.prog 20 #[.pointer (some ⟨hb,0,none⟩),.agg #[.int .i64 d,.string nm],.slice a n cap] W fun e w'=>e=.returned (.tuple #[.int .i64 N,.int .i64 E])∧R w':=by
  have hl:hb<W.heap.size:=World.block_lt_of_cell? W _ c0
  have hn:¬ hb=W.heap.size:=by omega
  have B0:Hid (Below W.heap.size W (W.alloc (.cells #[.int .i64 d,.string nm] 40))):=(Below.refl _ _).alloc (Nat.le_refl _) _
  have g1:¬ (n:Int)=0:=by omega
  have g2:¬ d<(n:Int):=by omega
  go_enter Tryz.func20,Tryz.ntmps20
  go_upto_region 3 with fail
  go_region_law (refine stp2h rfl 39 callLd (.tmp 14) (.tmp 15) 25 40 rfl (.pointer (some ⟨b,0,none⟩)) (.agg #[.int .i64 d,.string nm]) (by first|(simp [Act.eval];done)|(simp [Act.eval,Act.put];done)) (by first|(simp [Act.eval];done)|(simp [Act.eval,Act.put];done)) (HL.out _ B0.out.drew) ?_;rintro e w3 ⟨rfl,hB⟩;refine ⟨_,rfl,?_⟩;have B3:Hid (Below W.heap.size W w3):=bstep B0.out.drew hB;have B4:Hid (Below (W.alloc (.cells #[.int .i64 d,.string nm] 40)).heap.size (W.alloc (.cells #[.int .i64 d,.string nm] 40)) w3):=(Below.refl _ _).drew.trans hB;obtain ⟨xB,x0,x1,xf,xL,xN⟩:=k2c (n:=W.heap.size) B4.out (by simp) (halloc1 _ _);clear hB)
  all_goals go_wp2_with (go_at_call 40;refine (HF.out _ B3.out).mono ?_;rintro e w4 ⟨rfl,hx⟩;have R4:Hid (R w4):=hx;clear hx)
  all_goals go_ret2
  all_goals exact ⟨rfl,R4.out⟩
theorem multi_c {W:World} {S:Nat→Prop} {hb b:Nat} {ov:Value} {os:List Ob} (h:HpAt W S hb b ov os) {ps:List Plc} (hw:WAt b ps W) (d:Int) (nm:ByteArray) (hz:nm.size≤maxLen) (a:Option Addr) (n cap:Nat) (xs:List Int) (HN:xs.length=n) (hcap:n≤cap) (ha:¬ n=0→∃ g o,a=some ⟨g,o,none⟩∧IsAt W g o xs∧¬ S g) :
    Calls Tryz.prog 20 #[.pointer (some ⟨hb,0,none⟩),.agg #[.int .i64 d,.string nm],.slice a n cap] W fun e w'=>e=.returned (.tuple #[.int .i64 (mulN ps os d nm xs),.int .i64 (mulE ps os d nm xs)])∧∃ new,HpN S W w' hb b (os++new)∧new.map Ob.p=mulL ps os d nm xs:=by
  have HL:∀ w,Below W.heap.size W w→Calls Tryz.prog 39 #[.pointer (some ⟨b,0,none⟩),.agg #[.int .i64 d,.string nm]] w fun e w'=>e=.returned (.int .i64 (ldI ps d nm))∧Below w.heap.size w w':=fun w hl=>loaded_c (hw.below hl) d nm hz
  have c0:=h.cells.1
  by_cases e2:ldI ps d nm=0
  · rw [e2] at HL
    by_cases e3:n=0∨d<(n:Int)
    · have q1:mulE ps os d nm xs=2:=by rw [mulE,if_pos e2,HN,if_pos e3]
      have q2:mulN ps os d nm xs=0:=by rw [mulN,q1];rfl
      have q3:mulL ps os d nm xs=[]:=by rw [mulL,q1];rfl
      rw [q1,q2,q3]
      exact (multi_2 d nm a n cap e3 c0 HL).mono fun e w' ⟨a1,a2⟩=>⟨a1,[],by rw [List.append_nil];exact h.stay a2,rfl⟩
    · have q1:mulE ps os d nm xs=filE os xs:=by rw [mulE,if_pos e2,HN,if_neg e3]
      have q2:mulN ps os d nm xs=filN os xs:=by rw [mulN,q1];rfl
      have q3:mulL ps os d nm xs=filL os d nm xs:=by rw [mulL,q1];rfl
      rw [q1,q2,q3]
      obtain ⟨g,o,rfl,hx,hg⟩:=ha (fun x=>e3 (.inl x))
      have hsn:sndB d nm.data.toList=true:=by
        cases hs:sndB d nm.data.toList with
        | true=>rfl
        | false=>unfold ldI at e2;rw [hs] at e2;revert e2;simp
      obtain ⟨h0,h255,_⟩:=ld_facts e2
      obtain ⟨k,rfl⟩:∃ k:Nat,d=(k:Int):=⟨d.toNat,by omega⟩
      have hgl:g<W.heap.size:=by
        obtain ⟨x,hx1⟩:∃ x,xs[0]?=some x:=⟨_,List.getElem?_eq_getElem (by omega)⟩
        exact World.block_lt_of_cell? W _ (hx 0 x hx1)
      refine multi_3 (k:Int) _ _ nm _ n cap (fun x=>e3 (.inl x)) (by omega) c0 HL (fun w hl=>?_)
      exact (fill_c (h.below hl) HN (by omega) (by omega) hcap k nm hz hsn (by omega) (hx.keep (hl.block g hgl)) hg).mono fun e w' ⟨a1,new,a2,a3⟩=>⟨a1,new,a2.pre hl,a3⟩
  · have q1:mulE ps os d nm xs=ldI ps d nm:=by rw [mulE,if_neg e2]
    have q2:mulN ps os d nm xs=0:=by rw [mulN,q1,if_neg e2]
    have q3:mulL ps os d nm xs=[]:=by rw [mulL,q1,if_neg e2]
    rw [q1,q2,q3]
    exact (multi_1 d _ nm _ e2 c0 HL).mono fun e w' ⟨a1,a2⟩=>⟨a1,[],by rw [List.append_nil];exact h.stay a2,rfl⟩
set_option maxHeartbeats 4000000 in
theorem opened_c (v:Value) (l:List Cls) (W:World) (h:IsClss W v l):Calls Tryz.prog 9 #[v] W fun e w'=>∃ b hb V,e=.returned (.tuple #[.pointer (some ⟨b,0,none⟩),.pointer (some ⟨hb,0,none⟩)])∧Below W.heap.size W V∧WAt b (wld l) V∧Below V.heap.size V w'∧V.heap.size≤hb∧HpAt w' (fun k=>k=hb) hb b (.slice none 0 0) []:=by
  have hCW:=clss_w h
  obtain ⟨ao,cap,rfl,h1,h2,h3⟩:=h
  unfold maxLen at h2
  obtain ⟨L,hL⟩:∃ L,l.length=L:=⟨_,rfl⟩
  have HL:Hid (l.length=L):=hL
  have HI:Hid _:=h3
  have HCW:Hid (∀ c∈l,ClsW c):=hCW
  rw [hL] at h1 ⊢
  clear hL h3 hCW
  have HN:Hid (∀ w:World,Calls Tryz.prog 25 #[] w fun e w'=>e=.returned (.pointer (some ⟨w.heap.size+1,0,none⟩))∧(∃ vp pv,HW w' w.heap.size (w.heap.size+1) w.heap.size P3 vp pv)∧Below w.heap.size w w'):=new_any
  go_enter Tryz.func9,Tryz.ntmps9
  go_wp2_with (first
    | (go_at_call 25;refine (HN.out _).mono ?_;rintro e w2 ⟨rfl,hw,hb⟩;have H2:Hid (∃ vp pv,HW w2 W.heap.size (W.heap.size+1) W.heap.size P3 vp pv):=hw;have B2:Hid (Below W.heap.size W w2):=hb;clear hb hw HN))
  go_loopw [5] (fun iv wr=>∃ (i:Nat),iv=.int .i64 i∧i≤L∧Hid (∃ vp pv,HW wr W.heap.size (W.heap.size+1) W.heap.size (wld (l.take i)) vp pv)∧Hid (Below W.heap.size W wr)) (fun iv _=>L - (intOf iv).toNat)
  case atStart=>exact ⟨0,rfl,Nat.zero_le _,H2,B2⟩
  case round =>
    clear H2 B2
    obtain ⟨i,rfl,hi,hHW,hB⟩:=hrel
    by_cases hlt:i<L
    · obtain ⟨c,hc⟩:∃ c,l[i]?=some c:=⟨_,List.getElem?_eq_getElem (by rw [HL.out];exact hlt)⟩
      obtain ⟨bk,o,rfl,hbk,hcl⟩:=HI.out (fun e=>by rw [e] at hc;simp at hc)
      obtain ⟨vi,vm,hcell,hin⟩:=hcl i c hc
      have bel:Below W.heap.size W wr:=hB.out
      have p0:wr.cell? ⟨bk,o+i * 6,none⟩=some (.string c.nm):=(bel.cell (p:=⟨bk,o+i * 6,none⟩) hbk).trans (hcell 0 _ rfl)
      have p1:wr.cell? ⟨bk,o+i * 6+1,none⟩=some (.string c.su):=(bel.cell (p:=⟨bk,o+i * 6+1,none⟩) hbk).trans (hcell 1 _ rfl)
      have p2:wr.cell? ⟨bk,o+i * 6+2,none⟩=some vi:=(bel.cell (p:=⟨bk,o+i * 6+2,none⟩) hbk).trans (hcell 2 _ rfl)
      have p3:wr.cell? ⟨bk,o+i * 6+3,none⟩=some (.int .i64 c.fl):=(bel.cell (p:=⟨bk,o+i * 6+3,none⟩) hbk).trans (hcell 3 _ rfl)
      have p4:wr.cell? ⟨bk,o+i * 6+4,none⟩=some (.int .i64 c.ld):=(bel.cell (p:=⟨bk,o+i * 6+4,none⟩) hbk).trans (hcell 4 _ rfl)
      have p5:wr.cell? ⟨bk,o+i * 6+5,none⟩=some vm:=(bel.cell (p:=⟨bk,o+i * 6+5,none⟩) hbk).trans (hcell 5 _ rfl)
      have hWI:WI (wld (l.take i)):=wld_wi _ (fun c hc=>HCW.out c (List.mem_of_mem_take hc))
      have HD:Hid (Calls Tryz.prog 26 #[.pointer (some ⟨W.heap.size+1,0,none⟩),.agg #[.string c.nm,.string c.su,vi,.int .i64 c.fl,.int .i64 c.ld,vm]] wr fun e w'=>(∃ u,e=.returned u)∧Hid (∃ vp pv,HW w' W.heap.size (W.heap.size+1) W.heap.size (wld (l.take (i+1))) vp pv)∧Hid (Below W.heap.size W w')):=by
        obtain ⟨vp,pv,hw⟩:=hHW.out
        refine (define_any W.heap.size (W.heap.size+1) W.heap.size _ vp pv c vi vm wr hw hB.out.size (hin.keep bel) hWI.nm).mono ?_
        rintro e w' ⟨rfl,hw',hb',_⟩
        rw [wld_at hc]
        exact ⟨⟨_,rfl⟩,hw',hB.out.trans hb'⟩
      clear hcl hcell hin hc bel hWI hHW hB HI
      go_wp2_with (go_at_call 26;refine HD.out.mono ?_;rintro e w3 ⟨⟨u3,rfl⟩,hw3,hb3⟩;clear HD)
      go_roundw
      case rel=>exact ⟨i+1,by go_num,by omega,hw3,hb3⟩
      case measure=>simp [intOf];omega
    · have e:i=L:=by omega
      subst e
      have HF:Hid (WAt (W.heap.size+1) (wld l) wr):=by
        obtain ⟨vp,pv,hw⟩:=hHW.out
        rw [List.take_of_length_le (by rw [HL.out];exact Nat.le_refl _)] at hw
        exact hw.wat
      clear hHW HI
      have HL2:Hid (∀ (b:Nat) (w:World),Calls Tryz.prog 27 #[.pointer (some ⟨b,0,none⟩)] w fun e w'=>e=.returned (.tuple #[.pointer (some ⟨w.heap.size+1,0,none⟩),.int .i64 0])∧w'.cell? ⟨w.heap.size+1,0,none⟩=some (.pointer (some ⟨b,0,none⟩))∧w.heap.size+2≤w'.heap.size∧Below w.heap.size w w'):=lnew_h
      go_wp2_with (first
        | (go_at_call 27;refine (HL2.out _ _).mono ?_;rintro e w5 ⟨rfl,hc,hz5,hb⟩;have B5:Hid (Below wr.heap.size wr w5):=hb;have C5:Hid _:=hc;clear hb hc HL2)
        | (go_at_call 24;refine (hnew_c _ _ _ C5.out).mono ?_;rintro e w6 ⟨rfl,hp,hb,hz6⟩;have P6:Hid _:=hp;have B6:Hid (Below w5.heap.size w5 w6):=hb;clear hp hb))
      go_ret2
      exact ⟨_,_,wr,rfl,hB.out,HF.out,bstep B5.out B6.out,by omega,P6.out⟩
theorem clss_nil (W:World):IsClss W (.slice none 0 0) []:=⟨none,0,rfl,Nat.le_refl _,Nat.zero_le _,fun h=>absurd rfl h⟩
theorem own_sz {S:Nat→Prop} {V W w:World} (h:Tch S W w) (hl:Below V.heap.size V W) (hs:∀ k,S k→V.heap.size≤k):Below V.heap.size V w:=hl.trans (h.below hl.size hs)
theorem awk_1:aryE P3 [] 0 ⟨#[]⟩ 3=0:=by decide +kernel
theorem awk_2:aryN P3 [] 0 ⟨#[]⟩ 3=1:=by rw [aryN,awk_1];rfl
theorem awk_3:aryL P3 [] 0 ⟨#[]⟩ 3=[(1,⟨#[]⟩,[0,0,0])]:=by rw [aryL,awk_1];rfl
set_option maxHeartbeats 1000000 in
theorem awake20_c (W:World):Calls Tryz.prog 8 #[] W fun e w'=>e=.returned (.bool true)∧Below W.heap.size W w':=by
  have HO:Hid (∀ w:World,Calls Tryz.prog 9 #[.slice none 0 0] w fun e w'=>∃ b hb V,e=.returned (.tuple #[.pointer (some ⟨b,0,none⟩),.pointer (some ⟨hb,0,none⟩)])∧Below w.heap.size w V∧WAt b (wld []) V∧Below V.heap.size V w'∧V.heap.size≤hb∧HpAt w' (fun k=>k=hb) hb b (.slice none 0 0) []):=fun w=>opened_c _ [] w (clss_nil w)
  go_enter Tryz.func8,Tryz.ntmps8
  go_wp2_with (first
    | (go_at_call 9;refine (HO.out _).mono ?_;rintro e w1 ⟨b,hb,V,rfl,hb1,hw1,hb2,hz1,hp1⟩;have B1:Hid (Below W.heap.size W V):=hb1;have B2:Hid (Below V.heap.size V w1):=hb2;have W1:Hid (WAt b (wld []) V):=hw1;have P1:Hid (HpAt w1 (fun k=>k=hb) hb b (.slice none 0 0) []):=hp1;clear hb1 hw1 hb2 hp1 HO)
    | (go_at_call 13;refine (array_c P1.out (W1.out.below B2.out) 0 ⟨#[]⟩ (Nat.zero_le _) 3).mono ?_;rintro e w2 ⟨rfl,new,hn,hm⟩;have N2:Hid (HpN (fun k=>k=hb) w1 w2 hb b ([]++new)):=hn;have M2:Hid (new.map Ob.p=aryL (wld []) [] 0 ⟨#[]⟩ 3):=hm;rw [show aryN (wld []) [] 0 ⟨#[]⟩ 3=1 from awk_2,show aryE (wld []) [] 0 ⟨#[]⟩ 3=0 from awk_1];clear hn hm)
    | (go_at_call 17;refine (hlen_c N2.out.1.choose_spec).mono ?_;rintro e w3 ⟨rfl,hw⟩;obtain rfl:=hw.symm;rw [show (([]++new:List Ob).length:Int)=1 by (have h1:=congrArg List.length M2.out;rw [show aryL (wld []) [] 0 ⟨#[]⟩ 3=[(1,⟨#[]⟩,[0,0,0])] from awk_3] at h1;simp at h1;simp [h1])])
    | (go_at_call 21;refine (hwds_c N2.out.1.choose_spec).mono ?_;rintro e w3 ⟨rfl,hw⟩;obtain rfl:=hw.symm;rw [show (wdL ([]++new):Int)=3 by (have h1:=congrArg wdP M2.out;rw [wdP_map,show aryL (wld []) [] 0 ⟨#[]⟩ 3=[(1,⟨#[]⟩,[0,0,0])] from awk_3] at h1;simp [wdP] at h1;simp [h1])]))
  go_ret
  exact ⟨rfl,bstep B1.out (own_sz N2.out.2 B2.out (fun k hk=>by rw [hk];exact hz1))⟩
theorem fil_two (nm:ByteArray) (d:Int) (A B:Nat):filP nm d [A,B] 0=(d,nm,(List.range A).map fun i=>((2+i:Nat):Int))::List.replicate A (d - 1,nm,List.replicate B 0):=by
  have e:∀ A:Nat,(List.range A).flatMap (fun i=>filP nm (d - 1) [B] (0+1+i * szC [B]))=List.replicate A (d - 1,nm,List.replicate B 0):=by
    intro A
    induction A with
    | zero=>rfl
    | succ A ih=>rw [List.range_succ,List.flatMap_append,ih,List.flatMap_singleton,filP_one,List.replicate_succ']
  rw [filP,e]
  simp [szC]
structure MuF (os:List Ob) (d:Int) (nm:ByteArray) (A B:Nat):Prop where
  len:os.length=1+A
  wds:wdL os=A+A * B
  one:∃ o,obI os 1=some o∧o.d=d∧o.nm=nm∧o.xs=(List.range A).map fun i=>((2+i:Nat):Int)
  two:∀ i,i<A→∃ o,obI os ((2+i:Nat):Int)=some o∧o.d=d - 1∧o.nm=nm∧o.xs=List.replicate B 0
theorem wd_rep (A:Nat) (d:Int) (nm:ByteArray) (B:Nat):wdP (List.replicate A (d,nm,List.replicate B 0))=A * B:=by
  induction A with
  | zero=>simp [wdP]
  | succ A ih=>rw [List.replicate_succ,wdP,ih,Nat.succ_mul];simp;omega
theorem mu_facts {new:List Ob} {nm:ByteArray} {d:Int} {A B:Nat} (h:new.map Ob.p=filP nm d [A,B] 0):MuF new d nm A B:=by
  rw [fil_two] at h
  have at_p:∀ (k:Nat) (x:PO),(new.map Ob.p)[k]?=some x→∃ o,new[k]?=some o∧o.p=x:=fun k x hx=>by
    rw [List.getElem?_map] at hx
    cases e:new[k]? with
    | none=>rw [e] at hx;cases hx
    | some o=>rw [e] at hx;exact ⟨o,rfl,by simpa using hx⟩
  refine ⟨?_,?_,?_,fun i hi=>?_⟩
  · have:=congrArg List.length h
    simp at this;omega
  · have:=congrArg wdP h
    rw [wdP_map,wdP,wd_rep] at this
    simpa using this
  · obtain ⟨o,h1,h2⟩:=at_p 0 _ (by rw [h];rfl)
    refine ⟨o,?_,congrArg Prod.fst h2,congrArg (fun x=>x.2.1) h2,congrArg (fun x=>x.2.2) h2⟩
    rw [obI,if_pos (by omega)];exact h1
  · obtain ⟨o,h1,h2⟩:=at_p (i+1) (d - 1,nm,List.replicate B 0) (by rw [h];simp [hi])
    refine ⟨o,?_,congrArg Prod.fst h2,congrArg (fun x=>x.2.1) h2,congrArg (fun x=>x.2.2) h2⟩
    rw [obI,if_pos (by omega),show (((2+i:Nat):Int) - 1).toNat=i+1 by omega];exact h1
theorem mul_ok {ps:List Plc} {d a b:Int} {nm:ByteArray} (h:mulE ps [] d nm [a,b]=0):∃ A B:Nat,a=(A:Int)∧b=(B:Int)∧2≤d∧d≤255∧1+A≤1000∧A+A * B≤20000:=by
  unfold mulE at h
  split at h
  · rename_i hl
    obtain ⟨h0,h255,_⟩:=ld_facts hl
    split at h
    · cases h
    · rename_i hd
      unfold filE at h
      split at h
      · cases h
      · rename_i hn
        split at h
        · rename_i hr
          simp [negB] at hn
          simp [rmB,szC,wdC,wdL] at hr
          refine ⟨a.toNat,b.toNat,by omega,by omega,?_,h255,by omega,by omega⟩
          simp at hd;omega
        · cases h
  · rename_i hl;exact absurd h hl
theorem two_at (w:World) (a b:Int):IsAt (w.alloc (.cells #[.int .i64 a,.int .i64 b] 3)) w.heap.size 0 [a,b]:=fun i x hx=>by
  rw [cell_of_row _ _ (0+i) _ _ _ (halloc1 _ _)]
  match i,hx with
  | 0,hx=>simp at hx;subst hx;rfl
  | 1,hx=>simp at hx;subst hx;rfl
  | n+2,hx=>simp at hx
set_option maxHeartbeats 4000000 in
theorem multi_no (W:World) (d a b E:Int) (nm:ByteArray) (hz:nm.size≤maxLen) (hE:¬ E=0) (HE:Hid (mulE (wld []) [] d nm [a,b]=E)) :
    Calls Tryz.prog 6 #[.agg #[.int .i64 d,.string nm],.int .i64 a,.int .i64 b] W fun e w'=>e=.returned (.bool true)∧Below W.heap.size W w':=by
  have B0:Hid (Below W.heap.size W (W.alloc (.cells #[.int .i64 d,.string nm] 40))):=(Below.refl _ _).alloc (Nat.le_refl _) _
  have HO:Hid (∀ w:World,Calls Tryz.prog 9 #[.slice none 0 0] w fun e w'=>∃ b hb V,e=.returned (.tuple #[.pointer (some ⟨b,0,none⟩),.pointer (some ⟨hb,0,none⟩)])∧Below w.heap.size w V∧WAt b (wld []) V∧Below V.heap.size V w'∧V.heap.size≤hb∧HpAt w' (fun k=>k=hb) hb b (.slice none 0 0) []):=fun w=>opened_c _ [] w (clss_nil w)
  go_enter Tryz.func6,Tryz.ntmps6
  go_wp2_with (first
    | (go_at_call 8;refine (awake20_c _).mono ?_;rintro e w1 ⟨rfl,hB⟩;have B1:Hid (Below W.heap.size W w1):=bstep B0.out hB;obtain ⟨zB,z0,z1,zf,zL,zN⟩:=k2c (n:=W.heap.size) hB;clear hB)
    | (go_at_call 9;refine (HO.out _).mono ?_;rintro e w2 ⟨bb,hb,V,rfl,hb1,hw1,hb2,hz1,hp1⟩;have B2:Hid (Below W.heap.size W V):=bstep B1.out hb1;have B3:Hid (Below V.heap.size V w2):=hb2;have W1:Hid (WAt bb (wld []) V):=hw1;have P1:Hid (HpAt w2 (fun k=>k=hb) hb bb (.slice none 0 0) []):=hp1;have zd:=k2c (n:=W.heap.size) (bstep hb1 hb2) zL zB.out;clear zB z0 z1 zf zL zN;obtain ⟨zB,z0,z1,zf,zL,zN⟩:=zd;clear hb1 hw1 hb2 hp1 HO)
    | (go_at_call 20;refine (multi_c (P1.out.below ((Below.refl _ _).alloc (Nat.le_refl _) _)) (W1.out.below (B3.out.alloc B3.out.size _)) d nm hz (some ⟨w2.heap.size,0,none⟩) 2 2 [a,b] rfl (Nat.le_refl _) (fun _=>⟨_,_,rfl,two_at _ _ _,fun x=>Nat.ne_of_lt P1.out.cells.2.2.2.2 x.symm⟩)).mono ?_;rintro e w3 ⟨rfl,new,hn,hm⟩;rw [show mulN (wld []) [] d nm [a,b]=0 by (rw [mulN,HE.out,if_neg hE]),HE.out];have e0:new=[]:=(by rw [mulL,HE.out,if_neg hE] at hm;simpa using hm);subst e0;have N3:Hid (HpN (fun k=>k=hb) w2 w3 hb bb []):=hn.pre ((Below.refl _ _).alloc (Nat.le_refl _) _);clear hn hm HE)
    | (go_at_call 17;refine (hlen_c N3.out.1.choose_spec).mono ?_;rintro e w4 ⟨rfl,hw⟩;obtain rfl:=hw.symm)
    | (go_at_call 21;refine (hwds_c N3.out.1.choose_spec).mono ?_;rintro e w4 ⟨rfl,hw⟩;obtain rfl:=hw.symm;rw [show (wdL []:Int)=0 from rfl]))
  go_ret
  exact ⟨rfl,bstep B2.out (own_sz N3.out.2 B3.out (fun k hk=>by rw [hk];exact hz1))⟩
end Go.Proofs.YtfnmmpkhopochaaGreat
