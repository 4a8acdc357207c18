import Derived.Test.YtdpodamnfpehkaaGreatDoorHrH
set_option maxRecDepth 100000
namespace Go.Proofs.YtdpodamnfpehkaaGreatDoor
open Go.RowKit Go.Maps
theorem HW.at {w:World} {N b mb:Nat} {ps:List Plc} {vp:Value} {pv:List PV} (h:HW w N b mb ps vp pv) {k:Nat} {q:Plc} (hk:ps[k]?=some q) :
    ∃ g cap p,vp=.slice (some ⟨g,0,none⟩) ps.length cap∧PlcAt w N p q∧∀ j,j<8→w.cell? ⟨g,k * 8+j,none⟩=(pvC p)[j]?:=by
  have hkl:=(List.getElem?_eq_some_iff.1 hk).1
  obtain ⟨p,hp⟩:∃ p,pv[k]?=some p:=⟨_,List.getElem?_eq_getElem (by rw [h.len];exact hkl)⟩
  obtain ⟨g,cap,rfl⟩:=Go.Joins.ownsRow_form h.row (by rw [h.len];omega)
  refine ⟨g,cap,p,by rw [h.len],h.pl k p q hp hk,fun j hj=>?_⟩
  rw [h.row.cellAt (k * 8+j) (by rw [h.len];omega)]
  exact flatP_at pv k p hp j hj
theorem has_yes {W:World} {N b mb:Nat} {ps:List Plc} {vp:Value} {pv:List PV} (h:HW W N b mb ps vp pv) (k:Nat) (hk:k<ps.length):Calls Tryz.prog 124 #[.pointer (some ⟨b,0,none⟩),.int .i64 (k:Int)] W fun e w'=>e=.returned (.bool true)∧w'=W:=by
  obtain ⟨a,c,e⟩:=ownv h.row
  rw [h.len] at e
  have hb:=h.hb
  rw [e] at hb
  refine (whas_any b ps.length a c _ (k:Int) W hb).mono ?_
  rintro e w' ⟨rfl,rfl⟩
  exact ⟨by rw [decide_eq_true (Int.natCast_nonneg k),decide_eq_true (by omega)];rfl,rfl⟩
theorem has_no {W:World} {N b mb:Nat} {ps:List Plc} {vp:Value} {pv:List PV} (h:HW W N b mb ps vp pv) (i:Int) (hi:¬ (0≤i∧i<ps.length)):Calls Tryz.prog 124 #[.pointer (some ⟨b,0,none⟩),.int .i64 i] W fun e w'=>e=.returned (.bool false)∧w'=W:=by
  obtain ⟨a,c,e⟩:=ownv h.row
  rw [h.len] at e
  have hb:=h.hb
  rw [e] at hb
  refine (whas_any b ps.length a c _ i W hb).mono ?_
  rintro e w' ⟨rfl,rfl⟩
  refine ⟨?_,rfl⟩
  by_cases h0:0≤i
  · rw [decide_eq_false (fun h1=>hi ⟨h0,h1⟩),Bool.and_false]
  · rw [decide_eq_false h0];rfl
theorem closure_yes (N b mb:Nat) (ps:List Plc) (vp:Value) (pv:List PV) (k:Nat) (q:Plc) (W:World) (h:HW W N b mb ps vp pv) (hq:ps[k]?=some q) (hn:ps.length≤300):Calls Tryz.prog 317 #[.pointer (some ⟨b,0,none⟩),.int .i64 (k:Int)] W fun e w'=>∃ v,e=.returned (.tuple #[v,.int .i64 0])∧w'.ownsRow W.heap.size 3 1 v q.cl.length (q.cl.map numV)∧Below W.heap.size W w':=by
  have hkl:=(List.getElem?_eq_some_iff.1 hq).1
  have HX:Hid (Calls Tryz.prog 124 #[.pointer (some ⟨b,0,none⟩),.int .i64 (k:Int)] W fun e w'=>e=.returned (.bool true)∧w'=W):=has_yes h k hkl
  have hwf:=h.wf q (List.mem_of_getElem? hq)
  have hcl:=nodup_lt_len _ _ hwf.2 hwf.1
  obtain ⟨g,cap,p,rfl,hpl,hcell⟩:=h.at hq
  have b0:=cell_of_row W b 0 _ _ _ h.hb
  simp only [List.getElem?_toArray,List.getElem?_cons_zero] at b0
  have c7:W.cell? ⟨g,k * 8+7,none⟩=some p.vc:=hcell 7 (by omega)
  have HC:Hid (Calls Tryz.prog 352 #[p.vc] W fun e w'=>∃ v',e=.returned v'∧w'.ownsRow W.heap.size 3 1 v' q.cl.length (q.cl.map numV)∧Below W.heap.size W w'):=copyN_any p.vc _ _ W (own_rds hpl.clo) (fun u hu=>by obtain ⟨x,_,rfl⟩:=List.mem_map.1 hu;rfl) (by omega)
  have hkI:(k:Int)<(ps.length:Int):=by omega
  clear hcell hpl hq h hwf
  go_enter Tryz.func317,Tryz.ntmps317
  go_wp2_with (first
    | (go_at_call 124;refine HX.out.mono ?_;rintro e w9 ⟨rfl,hw9⟩;rw [hw9];clear hw9 w9)
    | (go_at_call 352;refine HC.out.mono ?_;rintro e w1 ⟨v',rfl,hown,hb⟩;obtain ⟨a',c',rfl⟩:=ownv hown;have O1:Hid _:=hown;have B1:Hid _:=hb;clear hown hb HC))
  exact bodyPost_ret (results_tmp2 rfl _ _ _) rfl ⟨_,rfl,O1.out,B1.out⟩
def ifB (fl:Int):Bool:=bits .and .i64 fl 512 != 0
theorem isIface_any (nm su:ByteArray) (fl ld:Int) (vi vm:Value) (W:World):Calls Tryz.prog 72 #[.agg #[.string nm,.string su,vi,.int .i64 fl,.int .i64 ld,vm]] W fun e w'=>e=.returned (.bool (ifB fl))∧Below W.heap.size W w':=by
  go_enter Tryz.func72,Tryz.ntmps72
  go_wp2
  exact bodyPost_ret (results_tmp rfl _ _ _) rfl ⟨rfl,(Below.refl _ _).alloc (Nat.le_refl _) _⟩
theorem isIfaceW_no (N b mb:Nat) (ps:List Plc) (vp:Value) (pv:List PV) (i:Int) (W:World) (h:HW W N b mb ps vp pv) (hi:¬ (0≤i∧i<ps.length)):Calls Tryz.prog 71 #[.pointer (some ⟨b,0,none⟩),.int .i64 i] W fun e w'=>e=.returned (.bool false)∧Below W.heap.size W w':=by
  have HX:Hid (Calls Tryz.prog 124 #[.pointer (some ⟨b,0,none⟩),.int .i64 i] W fun e w'=>e=.returned (.bool false)∧w'=W):=has_no h i hi
  clear h hi
  go_enter Tryz.func71,Tryz.ntmps71
  go_wp2_with (go_at_call 124;refine HX.out.mono ?_;rintro e w9 ⟨rfl,hw9⟩;rw [hw9];clear hw9 w9)
  exact bodyPost_ret (results_tmp rfl _ _ _) rfl ⟨rfl,Below.refl _ _⟩
theorem isIfaceW_yes (N b mb:Nat) (ps:List Plc) (vp:Value) (pv:List PV) (k:Nat) (q:Plc) (W:World) (h:HW W N b mb ps vp pv) (hq:ps[k]?=some q):Calls Tryz.prog 71 #[.pointer (some ⟨b,0,none⟩),.int .i64 (k:Int)] W fun e w'=>e=.returned (.bool (ifB q.c.fl))∧Below W.heap.size W w':=by
  have hkl:=(List.getElem?_eq_some_iff.1 hq).1
  have HX:Hid (Calls Tryz.prog 124 #[.pointer (some ⟨b,0,none⟩),.int .i64 (k:Int)] W fun e w'=>e=.returned (.bool true)∧w'=W):=has_yes h k hkl
  obtain ⟨g,cap,p,rfl,hpl,hcell⟩:=h.at hq
  have b0:=cell_of_row W b 0 _ _ _ h.hb
  simp only [List.getElem?_toArray,List.getElem?_cons_zero] at b0
  have c0:W.cell? ⟨g,k * 8,none⟩=some (.string p.nm):=hcell 0 (by omega)
  have c1:W.cell? ⟨g,k * 8+1,none⟩=some (.string p.su):=hcell 1 (by omega)
  have c2:W.cell? ⟨g,k * 8+2,none⟩=some p.vi:=hcell 2 (by omega)
  have c3:W.cell? ⟨g,k * 8+3,none⟩=some (.int .i64 p.fl):=hcell 3 (by omega)
  have c4:W.cell? ⟨g,k * 8+4,none⟩=some (.int .i64 p.ld):=hcell 4 (by omega)
  have c5:W.cell? ⟨g,k * 8+5,none⟩=some p.vm:=hcell 5 (by omega)
  have HI:Hid (∀ w:World,Calls Tryz.prog 72 #[.agg #[.string p.nm,.string p.su,p.vi,.int .i64 p.fl,.int .i64 p.ld,p.vm]] w fun e w'=>e=.returned (.bool (ifB q.c.fl))∧Below w.heap.size w w'):=fun w=>by rw [← hpl.fl];exact isIface_any p.nm p.su p.fl p.ld p.vi p.vm w
  have hkI:(k:Int)<(ps.length:Int):=by omega
  clear hcell hpl hq h
  go_enter Tryz.func71,Tryz.ntmps71
  go_wp2_with (first
    | (go_at_call 124;refine HX.out.mono ?_;rintro e w9 ⟨rfl,hw9⟩;rw [hw9];clear hw9 w9 HX)
    | (go_at_call 72;refine (HI.out _).mono ?_;rintro e w1 ⟨rfl,hb⟩;have B1:Hid (Below W.heap.size W w1):=hb;clear hb HI))
  exact bodyPost_ret (results_tmp rfl _ _ _) rfl ⟨rfl,B1.out⟩
structure PlcB (q:Plc):Prop where
  ni:q.c.ni≤1000000
  xi:∀ u∈q.c.xi,u.oneCell'=true
  ms:q.c.ms.length≤1000000
  cd:∀ m∈q.c.ms,(∀ u∈m.xs,u.oneCell'=true)∧m.n≤1000000
  nm:q.c.nm.size≤maxLen
theorem halloc1 (w:World) (o:Obj):(w.alloc o).heap[w.heap.size]?=some o:=by unfold World.alloc;simp
theorem OwnC.setCell {w:World} {N:Nat} {vi:Value} {ni:Nat} {xi:List Value} {vm:Value} {qm:List (HM×Value)} (h:OwnC w N vi ni xi vm qm) {a:Addr} (ha:a.block<N) (v:Value):OwnC (w.setCell a v) N vi ni xi vm qm :=
  ⟨ownsRow_setCell_below h.ifs ha _,ownsRow_setCell_below h.ms ha _,fun x hx=>ownsRow_setCell_below (h.cod x hx) ha _⟩
theorem OwnC.le {w:World} {N M:Nat} {vi:Value} {ni:Nat} {xi:List Value} {vm:Value} {qm:List (HM×Value)} (h:OwnC w N vi ni xi vm qm) (hM:M≤N):OwnC w M vi ni xi vm qm :=
  ⟨Go.Joins.ownsRow_le h.ifs hM,Go.Joins.ownsRow_le h.ms hM,fun x hx=>Go.Joins.ownsRow_le (h.cod x hx) hM⟩
theorem class_yes (N b mb:Nat) (ps:List Plc) (vp:Value) (pv:List PV) (k:Nat) (q:Plc) (W:World) (h:HW W N b mb ps vp pv) (hq:ps[k]?=some q) (hB:PlcB q):Calls Tryz.prog 226 #[.pointer (some ⟨b,0,none⟩),.int .i64 (k:Int)] W fun e w'=>∃ vi vm qm,e=.returned (.tuple #[.agg #[.string q.c.nm,.string q.c.su,vi,.int .i64 q.c.fl,.int .i64 q.c.ld,vm],.int .i64 0])∧OwnC w' W.heap.size vi q.c.ni q.c.xi vm qm∧qm.map Prod.fst=q.c.ms∧Below W.heap.size W w':=by
  have hkl:=(List.getElem?_eq_some_iff.1 hq).1
  have HX:Hid (∀ w:World,Below W.heap.size W w→Calls Tryz.prog 124 #[.pointer (some ⟨b,0,none⟩),.int .i64 (k:Int)] w fun e w'=>e=.returned (.bool true)∧w'=w):=fun w hb=>has_yes (h.below hb) k hkl
  obtain ⟨g,cap,p,rfl,hpl,hcell⟩:=h.at hq
  have b0:=cell_of_row W b 0 _ _ _ h.hb
  simp only [List.getElem?_toArray,List.getElem?_cons_zero] at b0
  obtain ⟨qm,hqm,hoc⟩:=hpl.own
  obtain ⟨ai,ci,hvi⟩:=ownv hoc.ifs
  obtain ⟨am,cm,hvm⟩:=ownv hoc.ms
  have c0:W.cell? ⟨g,k * 8,none⟩=some (.string q.c.nm):=by rw [← hpl.nm];exact hcell 0 (by omega)
  have c1:W.cell? ⟨g,k * 8+1,none⟩=some (.string q.c.su):=by rw [← hpl.su];exact hcell 1 (by omega)
  have c2:W.cell? ⟨g,k * 8+2,none⟩=some (.slice ai q.c.ni ci):=by rw [← hvi];exact hcell 2 (by omega)
  have c3:W.cell? ⟨g,k * 8+3,none⟩=some (.int .i64 q.c.fl):=by rw [← hpl.fl];exact hcell 3 (by omega)
  have c4:W.cell? ⟨g,k * 8+4,none⟩=some (.int .i64 q.c.ld):=by rw [← hpl.ld];exact hcell 4 (by omega)
  have c5:W.cell? ⟨g,k * 8+5,none⟩=some (.slice am qm.length cm):=by rw [← hvm];exact hcell 5 (by omega)
  have hlen:qm.length=q.c.ms.length:=by rw [← hqm];simp
  have HC:Hid (∀ w:World,Below W.heap.size W w→Calls Tryz.prog 63 #[.agg #[.string q.c.nm,.string q.c.su,.slice ai q.c.ni ci,.int .i64 q.c.fl,.int .i64 q.c.ld,.slice am qm.length cm]] w fun e w'=>∃ vi' vm' qm',e=.returned (.agg #[.string q.c.nm,.string q.c.su,vi',.int .i64 q.c.fl,.int .i64 q.c.ld,vm'])∧OwnC w' w.heap.size vi' q.c.ni q.c.xi vm' qm'∧qm'.map Prod.fst=q.c.ms∧Below w.heap.size w w'):=by
    intro w hb
    rw [← hvi,← hvm,← hqm]
    refine copyC_any _ _ _ _ p.vi p.vm q.c.ni q.c.xi qm w ((own_rds hoc.ifs).keep hb) hB.xi hB.ni ((own_rds hoc.ms).keep hb) (by rw [hlen];exact hB.ms) (fun x hx=>⟨(own_rds (hoc.cod x hx)).keep hb,?_⟩)
    exact hB.cd x.1 (by rw [← hqm];exact List.mem_map_of_mem hx)
  have hkI:(k:Int)<(ps.length:Int):=by omega
  have hlt:b<W.heap.size:=(Array.getElem?_eq_some_iff.1 h.hb).1
  have hlm:¬ b=W.heap.size:=by omega
  have hgl:g<W.heap.size:=World.block_lt_of_cell? W _ c0
  have hgm:¬ g=W.heap.size:=by omega
  clear hcell hpl hq h hB hoc hvi hvm hqm hlen
  go_enter Tryz.func226,Tryz.ntmps226
  go_wp2_with (first
    | (go_at_call 124;refine (HX.out _ ((Below.refl _ _).alloc (Nat.le_refl _) _)).mono ?_;rintro e w9 ⟨rfl,hw9⟩;rw [hw9];clear hw9 w9)
    | (go_at_call 63;refine (HC.out _ ((Below.refl _ _).alloc (Nat.le_refl _) _)).mono ?_;rintro e w1 ⟨vi',vm',qm',rfl,hown,hqm,hb⟩;obtain ⟨a',c',rfl⟩:=ownv hown.ifs;obtain ⟨a2,c2,rfl⟩:=ownv hown.ms;have O1:Hid (OwnC w1 (W.heap.size+1) (.slice a' q.c.ni c') q.c.ni q.c.xi (.slice a2 qm'.length c2) qm'):=hown.le (by simp);have B1:Hid (Below W.heap.size W w1):=bstep ((Below.refl _ _).alloc (Nat.le_refl _) _) hb;have Q1:Hid _:=hqm;have h0:=(hb.block W.heap.size (by simp)).trans (halloc1 W _);have r0:=cell_of_row w1 W.heap.size 0 _ _ _ h0;have y0:=frozen_of_row w1 W.heap.size 0 _ _ h0;have r1:=cell_of_row w1 W.heap.size 1 _ _ _ h0;have y1:=frozen_of_row w1 W.heap.size 1 _ _ h0;have r2:=cell_of_row w1 W.heap.size 2 _ _ _ h0;have y2:=frozen_of_row w1 W.heap.size 2 _ _ h0;have r3:=cell_of_row w1 W.heap.size 3 _ _ _ h0;have y3:=frozen_of_row w1 W.heap.size 3 _ _ h0;have r4:=cell_of_row w1 W.heap.size 4 _ _ _ h0;have y4:=frozen_of_row w1 W.heap.size 4 _ _ h0;have r5:=cell_of_row w1 W.heap.size 5 _ _ _ h0;have y5:=frozen_of_row w1 W.heap.size 5 _ _ h0;simp only [List.getElem?_toArray,List.getElem?_cons_zero,List.getElem?_cons_succ] at r0 r1 r2 r3 r4 r5;clear hown hb hqm HC h0))
  refine bodyPost_ret (v:=.tuple #[.agg #[.string q.c.nm,.string q.c.su,.slice a' q.c.ni c',.int .i64 q.c.fl,.int .i64 q.c.ld,.slice a2 qm'.length c2],.int .i64 0]) (by simp [results,Tryz.results226,go_sem, *]) rfl ⟨_,_,qm',rfl,?_,Q1.out,?_⟩
  · refine OwnC.le (N:=W.heap.size+1) ?_ (by omega)
    repeat (refine OwnC.setCell ?_ (by simp) _)
    exact O1.out
  · repeat (refine Below.setCell ?_ (by simp) _)
    exact B1.out
end Go.Proofs.YtdpodamnfpehkaaGreatDoor
