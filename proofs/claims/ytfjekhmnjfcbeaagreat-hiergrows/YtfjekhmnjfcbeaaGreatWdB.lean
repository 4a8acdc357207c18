import Derived.Test.YtfjekhmnjfcbeaaGreatHrR
import Derived.Test.YtfjekhmnjfcbeaaGreatHrX
import Derived.Test.YtfjekhmnjfcbeaaGreatHrOi
import Derived.Test.YtfjekhmnjfcbeaaGreatCurB
import Derived.BigQuiet
set_option maxRecDepth 100000
namespace Go.Proofs.YtfjekhmnjfcbeaaGreat
open Go.RowKit Go.Maps
def WAt (b:Nat) (ps:List Plc) (w:World):Prop:=∃ N mb vp pv,HW w N b mb ps vp pv
theorem HW.wat {w:World} {N b mb:Nat} {ps:List Plc} {vp:Value} {pv:List PV} (h:HW w N b mb ps vp pv):WAt b ps w:=⟨N,mb,vp,pv,h⟩
theorem WAt.below {b:Nat} {ps:List Plc} {w w':World} (h:WAt b ps w) (hb:Below w.heap.size w w'):WAt b ps w':=by
  obtain ⟨N,mb,vp,pv,h⟩:=h
  exact ⟨N,mb,vp,pv,h.below hb⟩
def plcI (ps:List Plc) (i:Int):Option Plc:=if 0≤i then ps[i.toNat]? else none
theorem plcI_nat (ps:List Plc) (k:Nat):plcI ps (k:Int)=ps[k]?:=by
  rw [plcI,if_pos (Int.natCast_nonneg k)];rfl
theorem plcI_cases (ps:List Plc) (i:Int):(plcI ps i=none∧¬ (0≤i∧i<(ps.length:Int)))∨∃ (k:Nat) (q:Plc),i=(k:Int)∧ps[k]?=some q∧plcI ps i=some q:=by
  by_cases h:0≤i∧i<(ps.length:Int)
  · obtain ⟨k,rfl⟩:∃ k:Nat,i=(k:Int):=⟨i.toNat,by omega⟩
    have hk:k<ps.length:=by omega
    exact .inr ⟨k,_,rfl,List.getElem?_eq_getElem hk,by rw [plcI_nat];exact List.getElem?_eq_getElem hk⟩
  · refine .inl ⟨?_,h⟩
    unfold plcI
    by_cases h0:0≤i
    · rw [if_pos h0];exact List.getElem?_eq_none (by omega)
    · rw [if_neg h0]
theorem has_c {b:Nat} {ps:List Plc} {W:World} (h:WAt b ps W) (i:Int):Calls Tryz.prog 60 #[.pointer (some ⟨b,0,none⟩),.int .i64 i] W fun e w'=>e=.returned (.bool (plcI ps i).isSome)∧w'=W:=by
  obtain ⟨N,mb,vp,pv,h⟩:=h
  rcases plcI_cases ps i with ⟨h1,h2⟩|⟨k,q,rfl,h2,h1⟩
  · rw [h1];exact has_no h i h2
  · rw [h1];exact has_yes h k (List.getElem?_eq_some_iff.1 h2).1
def samePk (p q:Plc):Bool:=(p.c.ld == q.c.ld)&&(pkgL p.c.nm.data.toList == pkgL q.c.nm.data.toList)
def spI (ps:List Plc) (a b:Int):Bool:=match plcI ps a,plcI ps b with
  | some p,some q=>samePk p q
  | _,_=>false
theorem class_of' (C:World→Prop) (h:∃ w,C w):∃ (σ:Type) (V:σ→World),Nonempty σ∧Hid (∀ s,C (V s))∧Hid (∀ w,C w→∃ s,w=V s) :=
  ⟨{w // C w},Subtype.val,h.elim fun w hw=>⟨⟨w,hw⟩⟩,fun s=>s.2,fun w hw=>⟨⟨w,hw⟩,rfl⟩⟩
theorem samePk_no1 {b:Nat} {ps:List Plc} {W:World} (h:WAt b ps W) (x y:Int) (hq:plcI ps x=none):Calls Tryz.prog 19 #[.pointer (some ⟨b,0,none⟩),.int .i64 x,.int .i64 y] W fun e w'=>e=.returned (.bool false)∧Below W.heap.size W w':=by
  obtain ⟨σ,V,hne,V1,V2⟩:=class_of' (fun w'=>Below W.heap.size W w') ⟨_,Below.refl _ _⟩
  have HX:Hid (∀ s,Calls Tryz.prog 60 #[.pointer (some ⟨b,0,none⟩),.int .i64 x] (V s) fun e w''=>e=.returned (.bool false)∧∃ s',w''=V s'):=fun s=>by
    have:=has_c (h.below (V1.out s)) x
    rw [hq] at this
    exact this.mono fun e w'' zz=>⟨zz.1,s,zz.2⟩
  clear h hq
  go_enter Tryz.func19,Tryz.ntmps19
  go_wp2
  refine wp_region_class (C:=fun w'=>∃ s,w'=V s) (by kernel_rfl) (by kernel_rfl) (V2.out _ ((Below.refl _ _).drew)) ?_
  repeat (go_big_quiet_step ((go_at_call 60;exact HX.out _)))
  refine wpQuiet_nil ?_
  intro w9 hw9
  obtain ⟨s9,rfl⟩:=hw9
  go_wp2
  exact bodyPost_ret (results_tmp rfl _ _ _) rfl ⟨rfl,V1.out s9⟩
theorem samePk_no2 {b:Nat} {ps:List Plc} {W:World} (h:WAt b ps W) (x y:Int) (q:Plc) (hx:plcI ps x=some q) (hy:plcI ps y=none):Calls Tryz.prog 19 #[.pointer (some ⟨b,0,none⟩),.int .i64 x,.int .i64 y] W fun e w'=>e=.returned (.bool false)∧Below W.heap.size W w':=by
  obtain ⟨σ,V,hne,V1,V2⟩:=class_of' (fun w'=>Below W.heap.size W w') ⟨_,Below.refl _ _⟩
  have HX:Hid (∀ i s,i=x→Calls Tryz.prog 60 #[.pointer (some ⟨b,0,none⟩),.int .i64 i] (V s) fun e w''=>e=.returned (.bool true)∧∃ s',w''=V s'):=fun i s hi=>by
    have:=has_c (h.below (V1.out s)) i
    rw [hi,hx] at this
    rw [hi]
    exact this.mono fun e w'' zz=>⟨zz.1,s,zz.2⟩
  have HY:Hid (∀ i s,i=y→Calls Tryz.prog 60 #[.pointer (some ⟨b,0,none⟩),.int .i64 i] (V s) fun e w''=>e=.returned (.bool false)∧∃ s',w''=V s'):=fun i s hi=>by
    have:=has_c (h.below (V1.out s)) i
    rw [hi,hy] at this
    rw [hi]
    exact this.mono fun e w'' zz=>⟨zz.1,s,zz.2⟩
  clear h hx hy
  go_enter Tryz.func19,Tryz.ntmps19
  go_wp2
  refine wp_region_class (C:=fun w'=>∃ s,w'=V s) (by kernel_rfl) (by kernel_rfl) (V2.out _ ((Below.refl _ _).drew)) ?_
  repeat (go_big_quiet_step (first|(go_at_call 60;exact HX.out _ _ rfl)|(go_at_call 60;exact HY.out _ _ rfl)))
  refine wpQuiet_nil ?_
  intro w9 hw9
  obtain ⟨s9,rfl⟩:=hw9
  go_wp2
  exact bodyPost_ret (results_tmp rfl _ _ _) rfl ⟨rfl,V1.out s9⟩
theorem eqS (d:Nat) (a b:ByteArray) (w:World):(Op.equalIn (d+1) 9 (.string a) (.string b)).run Tryz.prog w=.ok (a == b) w:=by
  simp [Op.equalIn,run_underlying Tryz.underlying9,go_sem]
theorem eqN (d:Nat) (a b:Int) (w:World):(Op.equalIn (d+1) 3 (.int .i64 a) (.int .i64 b)).run Tryz.prog w=.ok (a == b) w:=by
  simp [Op.equalIn,run_underlying Tryz.underlying3,go_sem]
theorem eqPk (a b:Int) (s t:ByteArray) (w:World):(Op.equal 119 (.agg #[.int .i64 a,.string s]) (.agg #[.int .i64 b,.string t])).run Tryz.prog w=.ok ((a == b)&&(s == t)) w:=by
  have h:(Op.equalIn (9997+1+1+1) 119 (.agg #[.int .i64 a,.string s]) (.agg #[.int .i64 b,.string t])).run Tryz.prog w=.ok ((a == b)&&(s == t)) w:=by
    rw [Op.equalIn]
    simp [run_underlying Tryz.underlying119,go_sem,part,eqS,eqN]
    generalize (s == t)=y
    by_cases h1:a=b <;> cases y <;> simp [h1]
  exact h
theorem beqB (a b:List UInt8):((⟨a.toArray⟩:ByteArray) == ⟨b.toArray⟩)=(a == b):=by
  have h:((⟨a.toArray⟩:ByteArray) == ⟨b.toArray⟩)=(a.toArray == b.toArray):=rfl
  rw [h,Bool.eq_iff_iff,beq_iff_eq,beq_iff_eq]
  exact ⟨fun h=>by injection h,fun h=>by rw [h]⟩
theorem plc_cells {b:Nat} {ps:List Plc} {W:World} (h:WAt b ps W) {k:Nat} {q:Plc} (hq:ps[k]?=some q):∃ g cap vi vm,W.cell? ⟨b,0,none⟩=some (.slice (some ⟨g,0,none⟩) ps.length cap)∧b<W.heap.size∧g<W.heap.size ∧
    W.cell? ⟨g,k * 8,none⟩=some (.string q.c.nm)∧W.cell? ⟨g,k * 8+1,none⟩=some (.string q.c.su)∧W.cell? ⟨g,k * 8+2,none⟩=some vi∧W.cell? ⟨g,k * 8+3,none⟩=some (.int .i64 q.c.fl)∧W.cell? ⟨g,k * 8+4,none⟩=some (.int .i64 q.c.ld)∧W.cell? ⟨g,k * 8+5,none⟩=some vm∧(∃ a c,vi=.slice a q.c.ni c)∧(∃ a c,vm=.slice a q.c.ms.length c):=by
  obtain ⟨N,mb,vp,pv,h⟩:=h
  obtain ⟨g,cap,p,rfl,hpl,hcell⟩:=h.at hq
  have b0:=cell_of_row W b 0 _ _ _ h.hb
  simp only [List.getElem?_toArray,List.getElem?_cons_zero] at b0
  obtain ⟨qm,hqm,hoc⟩:=hpl.own
  have c0:W.cell? ⟨g,k * 8,none⟩=some (.string q.c.nm):=by rw [← hpl.nm];exact hcell 0 (by omega)
  refine ⟨g,cap,p.vi,p.vm,b0,(Array.getElem?_eq_some_iff.1 h.hb).1,World.block_lt_of_cell? W _ c0,c0,?_,?_,?_,?_,?_,?_,?_⟩
  · rw [← hpl.su];exact hcell 1 (by omega)
  · exact hcell 2 (by omega)
  · rw [← hpl.fl];exact hcell 3 (by omega)
  · rw [← hpl.ld];exact hcell 4 (by omega)
  · exact hcell 5 (by omega)
  · exact ownv hoc.ifs
  · have hlen:qm.length=q.c.ms.length:=by rw [← hqm];simp
    rw [← hlen];exact ownv hoc.ms
set_option maxHeartbeats 1000000 in
theorem samePk_yes {b:Nat} {ps:List Plc} {W:World} (h:WAt b ps W) (x y:Nat) (p q:Plc) (hx:ps[x]?=some p) (hy:ps[y]?=some q) (hpz:p.c.nm.size≤maxLen) (hqz:q.c.nm.size≤maxLen):Calls Tryz.prog 19 #[.pointer (some ⟨b,0,none⟩),.int .i64 (x:Int),.int .i64 (y:Int)] W fun e w'=>e=.returned (.bool (samePk p q))∧Below W.heap.size W w':=by
  obtain ⟨σ,V,hne,V1,V2⟩:=class_of' (fun w'=>Below W.heap.size W w') ⟨_,Below.refl _ _⟩
  have HX:Hid (∀ i s,i=(x:Int)→Calls Tryz.prog 60 #[.pointer (some ⟨b,0,none⟩),.int .i64 i] (V s) fun e w''=>e=.returned (.bool true)∧∃ s',w''=V s'):=fun i s hi=>by
    have:=has_c (h.below (V1.out s)) i
    rw [hi,plcI_nat,hx] at this
    rw [hi]
    exact this.mono fun e w'' zz=>⟨zz.1,s,zz.2⟩
  have HY:Hid (∀ i s,i=(y:Int)→Calls Tryz.prog 60 #[.pointer (some ⟨b,0,none⟩),.int .i64 i] (V s) fun e w''=>e=.returned (.bool true)∧∃ s',w''=V s'):=fun i s hi=>by
    have:=has_c (h.below (V1.out s)) i
    rw [hi,plcI_nat,hy] at this
    rw [hi]
    exact this.mono fun e w'' zz=>⟨zz.1,s,zz.2⟩
  obtain ⟨g,cap,vi,vm,b0,hlt,hgl,c0,c1,c2,c3,c4,c5,⟨ai,ci,rfl⟩,am,cm,rfl⟩:=plc_cells h hx
  obtain ⟨g',cap',vi',vm',b0',_,_,d0,d1,d2,d3,d4,d5,⟨ai',ci',rfl⟩,am',cm',rfl⟩:=plc_cells h hy
  rw [b0] at b0'
  simp only [Option.some.injEq,Value.slice.injEq,Addr.mk.injEq,and_true,true_and] at b0'
  obtain ⟨rfl,rfl⟩:=b0'
  have HPZ:Hid (p.c.nm.size≤maxLen):=hpz
  have HQZ:Hid (q.c.nm.size≤maxLen):=hqz
  obtain ⟨pk,hpk,HP⟩:∃ pk:ByteArray→ByteArray,(pk=fun x=>⟨(pkgL x.data.toList).toArray⟩)∧Hid (∀ nm su fl ld vi vm s,nm.size≤maxLen→Calls Tryz.prog 68 #[.agg #[.string nm,.string su,vi,.int .i64 fl,.int .i64 ld,vm]] (V s) fun e w''=>e=.returned (.agg #[.int .i64 ld,.string (pk nm)])∧∃ s',w''=V s') :=
    ⟨_,rfl,fun nm su fl ld vi vm s hz=>(packageOf_any _ _ _ _ _ _ (V s) hz).mono fun e w'' zz=>⟨zz.1,V2.out _ (bstep (V1.out s) zz.2)⟩⟩
  have HPK:Hid (pk=fun x=>⟨(pkgL x.data.toList).toArray⟩):=hpk
  clear hpk
  have kp:∀ (s:σ) (bb j:Nat) (v:Value),bb<W.heap.size→W.cell? ⟨bb,j,none⟩=some v→(V s).cell? ⟨bb,j,none⟩=some v:=fun s bb j v hl h=>((V1.out s).cell (p:=⟨bb,j,none⟩) hl).trans h
  replace b0:=fun s=>kp s _ _ _ hlt b0
  replace c0:=fun s=>kp s _ _ _ hgl c0
  replace c1:=fun s=>kp s _ _ _ hgl c1
  replace c2:=fun s=>kp s _ _ _ hgl c2
  replace c3:=fun s=>kp s _ _ _ hgl c3
  replace c4:=fun s=>kp s _ _ _ hgl c4
  replace c5:=fun s=>kp s _ _ _ hgl c5
  replace d0:=fun s=>kp s _ _ _ hgl d0
  replace d1:=fun s=>kp s _ _ _ hgl d1
  replace d2:=fun s=>kp s _ _ _ hgl d2
  replace d3:=fun s=>kp s _ _ _ hgl d3
  replace d4:=fun s=>kp s _ _ _ hgl d4
  replace d5:=fun s=>kp s _ _ _ hgl d5
  have hxI:(x:Int)<(ps.length:Int):=by have:=(List.getElem?_eq_some_iff.1 hx).1;omega
  have hyI:(y:Int)<(ps.length:Int):=by have:=(List.getElem?_eq_some_iff.1 hy).1;omega
  have HR:Hid (samePk p q=((p.c.ld == q.c.ld)&&(pkgL p.c.nm.data.toList == pkgL q.c.nm.data.toList))):=rfl
  have HR2:Hid ((p.c.ld == q.c.ld&&pk p.c.nm == pk q.c.nm)=samePk p q):=by rw [Hid,HR.out,HPK.out,beqB]
  generalize samePk p q=R at *
  clear HR HPK
  have EQ:∀ w,(Op.equal 119 (.agg #[.int .i64 p.c.ld,.string (pk p.c.nm)]) (.agg #[.int .i64 q.c.ld,.string (pk q.c.nm)])).run Tryz.prog w=.ok R w:=fun w=>by rw [eqPk,HR2.out]
  have G1:∀ w,(eqGuard .eql 119 (.tmp 24) (.tmp 33) (.agg #[.int .i64 p.c.ld,.string (pk p.c.nm)]) (.agg #[.int .i64 q.c.ld,.string (pk q.c.nm)])).run Tryz.prog w=.ok () w:=fun w=>by
    simp [eqGuard,go_sem]
  have G2:∀ w,(binOp .eql 119 (.agg #[.int .i64 p.c.ld,.string (pk p.c.nm)]) (.agg #[.int .i64 q.c.ld,.string (pk q.c.nm)])).run Tryz.prog w=.ok (.bool R) w:=fun w=>by
    simp [binOp,EQ,go_sem]
  clear HR2 EQ
  clear h hx hy kp hlt hgl hpz hqz
  go_enter Tryz.func19,Tryz.ntmps19
  go_wp2
  refine wp_region_class (C:=fun w'=>∃ s,w'=V s) (by kernel_rfl) (by kernel_rfl) (V2.out _ ((Below.refl _ _).drew)) ?_
  repeat (go_big_quiet_step (first|(go_at_call 60;exact HX.out _ _ rfl)|(go_at_call 60;exact HY.out _ _ rfl)|(go_at_call 68;exact HP.out _ _ _ _ _ _ _ (by first|exact HPZ.out|exact HQZ.out))))
  refine wpQuiet_nil ?_
  intro w9 hw9
  obtain ⟨s9,rfl⟩:=hw9
  go_wp2
  exact bodyPost_ret (results_tmp rfl _ _ _) rfl ⟨rfl,V1.out s9⟩
theorem samePk_c {b:Nat} {ps:List Plc} {W:World} (h:WAt b ps W) (hz:∀ q∈ps,q.c.nm.size≤maxLen) (x y:Int):Calls Tryz.prog 19 #[.pointer (some ⟨b,0,none⟩),.int .i64 x,.int .i64 y] W fun e w'=>e=.returned (.bool (spI ps x y))∧Below W.heap.size W w':=by
  rcases plcI_cases ps x with ⟨h1,_⟩|⟨k,p,rfl,h2,h1⟩
  · have e:spI ps x y=false:=by rw [spI,h1]
    rw [e];exact samePk_no1 h x y h1
  · rcases plcI_cases ps y with ⟨g1,_⟩|⟨j,q,rfl,g2,g1⟩
    · have e:spI ps k y=false:=by rw [spI,h1,g1]
      rw [e];exact samePk_no2 h k y p h1 g1
    · have e:spI ps k j=samePk p q:=by rw [spI,h1,g1]
      rw [e];exact samePk_yes h k j p q h2 g2 (hz p (List.mem_of_getElem? h2)) (hz q (List.mem_of_getElem? g2))
end Go.Proofs.YtfjekhmnjfcbeaaGreat
