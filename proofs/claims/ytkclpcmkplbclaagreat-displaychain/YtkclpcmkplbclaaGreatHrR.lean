import Derived.Test.YtkclpcmkplbclaaGreatHrH
set_option maxRecDepth 100000
namespace Go.Proofs.YtkclpcmkplbclaaGreat
open Go.RowKit Go.Maps
theorem HW.at {w:World} {N b mb:Nat} {ps:List Plc} {vp:Value} {pv:List PV} (h:HW w N b mb ps vp pv) {k:Nat} {q:Plc} (hk:ps[k]?=some q) :
    ∃ g cap p,vp=.slice (some ⟨g,0,none⟩) ps.length cap∧PlcAt w N p q∧∀ j,j<8→w.cell? ⟨g,k * 8+j,none⟩=(pvC p)[j]?:=by
  have hkl:=(List.getElem?_eq_some_iff.1 hk).1
  obtain ⟨p,hp⟩:∃ p,pv[k]?=some p:=⟨_,List.getElem?_eq_getElem (by rw [h.len];exact hkl)⟩
  obtain ⟨g,cap,rfl⟩:=Go.Joins.ownsRow_form h.row (by rw [h.len];omega)
  refine ⟨g,cap,p,by rw [h.len],h.pl k p q hp hk,fun j hj=>?_⟩
  rw [h.row.cellAt (k * 8+j) (by rw [h.len];omega)]
  exact flatP_at pv k p hp j hj
theorem has_yes {W:World} {N b mb:Nat} {ps:List Plc} {vp:Value} {pv:List PV} (h:HW W N b mb ps vp pv) (k:Nat) (hk:k<ps.length):Calls Tryz.prog 74 #[.pointer (some ⟨b,0,none⟩),.int .i64 (k:Int)] W fun e w'=>e=.returned (.bool true)∧w'=W:=by
  obtain ⟨a,c,e⟩:=ownv h.row
  rw [h.len] at e
  have hb:=h.hb
  rw [e] at hb
  refine (whas_any b ps.length a c _ (k:Int) W hb).mono ?_
  rintro e w' ⟨rfl,rfl⟩
  exact ⟨by rw [decide_eq_true (Int.natCast_nonneg k),decide_eq_true (by omega)];rfl,rfl⟩
theorem has_no {W:World} {N b mb:Nat} {ps:List Plc} {vp:Value} {pv:List PV} (h:HW W N b mb ps vp pv) (i:Int) (hi:¬ (0≤i∧i<ps.length)):Calls Tryz.prog 74 #[.pointer (some ⟨b,0,none⟩),.int .i64 i] W fun e w'=>e=.returned (.bool false)∧w'=W:=by
  obtain ⟨a,c,e⟩:=ownv h.row
  rw [h.len] at e
  have hb:=h.hb
  rw [e] at hb
  refine (whas_any b ps.length a c _ i W hb).mono ?_
  rintro e w' ⟨rfl,rfl⟩
  refine ⟨?_,rfl⟩
  by_cases h0:0≤i
  · rw [decide_eq_false (fun h1=>hi ⟨h0,h1⟩),Bool.and_false]
  · rw [decide_eq_false h0];rfl
theorem super_no (N b mb:Nat) (ps:List Plc) (vp:Value) (pv:List PV) (i:Int) (W:World) (h:HW W N b mb ps vp pv) (hi:¬ (0≤i∧i<ps.length)):Calls Tryz.prog 27 #[.pointer (some ⟨b,0,none⟩),.int .i64 i] W fun e w'=>e=.returned (.tuple #[.int .i64 0,.int .i64 3])∧w'=W:=by
  have HX:Hid (Calls Tryz.prog 74 #[.pointer (some ⟨b,0,none⟩),.int .i64 i] W fun e w'=>e=.returned (.bool false)∧w'=W):=has_no h i hi
  clear h hi
  go_enter Tryz.func27,Tryz.ntmps27
  go_wp2_with (go_at_call 74;refine HX.out.mono ?_;rintro e w9 ⟨rfl,hw9⟩;rw [hw9];clear hw9 w9)
  exact bodyPost_ret (results_tmp2 rfl _ _ _) rfl ⟨rfl,rfl⟩
theorem super_yes (N b mb:Nat) (ps:List Plc) (vp:Value) (pv:List PV) (k:Nat) (q:Plc) (W:World) (h:HW W N b mb ps vp pv) (hq:ps[k]?=some q):Calls Tryz.prog 27 #[.pointer (some ⟨b,0,none⟩),.int .i64 (k:Int)] W fun e w'=>e=.returned (if k=0 then .tuple #[.int .i64 0,.int .i64 6] else .tuple #[.int .i64 (q.sp:Int),.int .i64 0])∧w'=W:=by
  have hkl:=(List.getElem?_eq_some_iff.1 hq).1
  have HX:Hid (Calls Tryz.prog 74 #[.pointer (some ⟨b,0,none⟩),.int .i64 (k:Int)] W fun e w'=>e=.returned (.bool true)∧w'=W):=has_yes h k hkl
  obtain ⟨g,cap,p,rfl,hpl,hcell⟩:=h.at hq
  have b0:=cell_of_row W b 0 _ _ _ h.hb
  simp only [List.getElem?_toArray,List.getElem?_cons_zero] at b0
  have c6:W.cell? ⟨g,k * 8+6,none⟩=some (.int .i64 (q.sp:Int)):=by rw [← hpl.sp];exact hcell 6 (by omega)
  have hkI:(k:Int)<(ps.length:Int):=by omega
  clear hcell hpl hq h
  by_cases hz:k=0
  · subst hz
    rw [if_pos rfl]
    go_enter Tryz.func27,Tryz.ntmps27
    go_wp2_with (go_at_call 74;refine HX.out.mono ?_;rintro e w9 ⟨rfl,hw9⟩;rw [hw9];clear hw9 w9)
    exact bodyPost_ret (results_tmp2 rfl _ _ _) rfl ⟨rfl,rfl⟩
  · have hz2:¬ (k:Int)=0:=by omega
    rw [if_neg hz]
    go_enter Tryz.func27,Tryz.ntmps27
    go_wp2_with (go_at_call 74;refine HX.out.mono ?_;rintro e w9 ⟨rfl,hw9⟩;rw [hw9];clear hw9 w9)
    exact bodyPost_ret (results_tmp2 rfl _ _ _) rfl ⟨rfl,rfl⟩
theorem closure_yes (N b mb:Nat) (ps:List Plc) (vp:Value) (pv:List PV) (k:Nat) (q:Plc) (W:World) (h:HW W N b mb ps vp pv) (hq:ps[k]?=some q) (hn:ps.length≤300):Calls Tryz.prog 18 #[.pointer (some ⟨b,0,none⟩),.int .i64 (k:Int)] W fun e w'=>∃ v,e=.returned (.tuple #[v,.int .i64 0])∧w'.ownsRow W.heap.size 3 1 v q.cl.length (q.cl.map numV)∧Below W.heap.size W w':=by
  have hkl:=(List.getElem?_eq_some_iff.1 hq).1
  have HX:Hid (Calls Tryz.prog 74 #[.pointer (some ⟨b,0,none⟩),.int .i64 (k:Int)] W fun e w'=>e=.returned (.bool true)∧w'=W):=has_yes h k hkl
  have hwf:=h.wf q (List.mem_of_getElem? hq)
  have hcl:=nodup_lt_len _ _ hwf.2 hwf.1
  obtain ⟨g,cap,p,rfl,hpl,hcell⟩:=h.at hq
  have b0:=cell_of_row W b 0 _ _ _ h.hb
  simp only [List.getElem?_toArray,List.getElem?_cons_zero] at b0
  have c7:W.cell? ⟨g,k * 8+7,none⟩=some p.vc:=hcell 7 (by omega)
  have HC:Hid (Calls Tryz.prog 75 #[p.vc] W fun e w'=>∃ v',e=.returned v'∧w'.ownsRow W.heap.size 3 1 v' q.cl.length (q.cl.map numV)∧Below W.heap.size W w'):=copyN_any p.vc _ _ W (own_rds hpl.clo) (fun u hu=>by obtain ⟨x,_,rfl⟩:=List.mem_map.1 hu;rfl) (by omega)
  have hkI:(k:Int)<(ps.length:Int):=by omega
  clear hcell hpl hq h hwf
  go_enter Tryz.func18,Tryz.ntmps18
  go_wp2_with (first
    | (go_at_call 74;refine HX.out.mono ?_;rintro e w9 ⟨rfl,hw9⟩;rw [hw9];clear hw9 w9)
    | (go_at_call 75;refine HC.out.mono ?_;rintro e w1 ⟨v',rfl,hown,hb⟩;obtain ⟨a',c',rfl⟩:=ownv hown;have O1:Hid _:=hown;have B1:Hid _:=hb;clear hown hb HC))
  exact bodyPost_ret (results_tmp2 rfl _ _ _) rfl ⟨_,rfl,O1.out,B1.out⟩
def ifB (fl:Int):Bool:=bits .and .i64 fl 512 != 0
theorem isIface_any (nm su:ByteArray) (fl ld:Int) (vi vm:Value) (W:World):Calls Tryz.prog 79 #[.agg #[.string nm,.string su,vi,.int .i64 fl,.int .i64 ld,vm]] W fun e w'=>e=.returned (.bool (ifB fl))∧Below W.heap.size W w':=by
  go_enter Tryz.func79,Tryz.ntmps79
  go_wp2
  exact bodyPost_ret (results_tmp rfl _ _ _) rfl ⟨rfl,(Below.refl _ _).alloc (Nat.le_refl _) _⟩
theorem isIfaceW_no (N b mb:Nat) (ps:List Plc) (vp:Value) (pv:List PV) (i:Int) (W:World) (h:HW W N b mb ps vp pv) (hi:¬ (0≤i∧i<ps.length)):Calls Tryz.prog 21 #[.pointer (some ⟨b,0,none⟩),.int .i64 i] W fun e w'=>e=.returned (.bool false)∧Below W.heap.size W w':=by
  have HX:Hid (Calls Tryz.prog 74 #[.pointer (some ⟨b,0,none⟩),.int .i64 i] W fun e w'=>e=.returned (.bool false)∧w'=W):=has_no h i hi
  clear h hi
  go_enter Tryz.func21,Tryz.ntmps21
  go_wp2_with (go_at_call 74;refine HX.out.mono ?_;rintro e w9 ⟨rfl,hw9⟩;rw [hw9];clear hw9 w9)
  exact bodyPost_ret (results_tmp rfl _ _ _) rfl ⟨rfl,Below.refl _ _⟩
theorem isIfaceW_yes (N b mb:Nat) (ps:List Plc) (vp:Value) (pv:List PV) (k:Nat) (q:Plc) (W:World) (h:HW W N b mb ps vp pv) (hq:ps[k]?=some q):Calls Tryz.prog 21 #[.pointer (some ⟨b,0,none⟩),.int .i64 (k:Int)] W fun e w'=>e=.returned (.bool (ifB q.c.fl))∧Below W.heap.size W w':=by
  have hkl:=(List.getElem?_eq_some_iff.1 hq).1
  have HX:Hid (Calls Tryz.prog 74 #[.pointer (some ⟨b,0,none⟩),.int .i64 (k:Int)] W fun e w'=>e=.returned (.bool true)∧w'=W):=has_yes h k hkl
  obtain ⟨g,cap,p,rfl,hpl,hcell⟩:=h.at hq
  have b0:=cell_of_row W b 0 _ _ _ h.hb
  simp only [List.getElem?_toArray,List.getElem?_cons_zero] at b0
  have c0:W.cell? ⟨g,k * 8,none⟩=some (.string p.nm):=hcell 0 (by omega)
  have c1:W.cell? ⟨g,k * 8+1,none⟩=some (.string p.su):=hcell 1 (by omega)
  have c2:W.cell? ⟨g,k * 8+2,none⟩=some p.vi:=hcell 2 (by omega)
  have c3:W.cell? ⟨g,k * 8+3,none⟩=some (.int .i64 p.fl):=hcell 3 (by omega)
  have c4:W.cell? ⟨g,k * 8+4,none⟩=some (.int .i64 p.ld):=hcell 4 (by omega)
  have c5:W.cell? ⟨g,k * 8+5,none⟩=some p.vm:=hcell 5 (by omega)
  have HI:Hid (∀ w:World,Calls Tryz.prog 79 #[.agg #[.string p.nm,.string p.su,p.vi,.int .i64 p.fl,.int .i64 p.ld,p.vm]] w fun e w'=>e=.returned (.bool (ifB q.c.fl))∧Below w.heap.size w w'):=fun w=>by rw [← hpl.fl];exact isIface_any p.nm p.su p.fl p.ld p.vi p.vm w
  have hkI:(k:Int)<(ps.length:Int):=by omega
  clear hcell hpl hq h
  go_enter Tryz.func21,Tryz.ntmps21
  go_wp2_with (first
    | (go_at_call 74;refine HX.out.mono ?_;rintro e w9 ⟨rfl,hw9⟩;rw [hw9];clear hw9 w9 HX)
    | (go_at_call 79;refine (HI.out _).mono ?_;rintro e w1 ⟨rfl,hb⟩;have B1:Hid (Below W.heap.size W w1):=hb;clear hb HI))
  exact bodyPost_ret (results_tmp rfl _ _ _) rfl ⟨rfl,B1.out⟩
structure PlcB (q:Plc):Prop where
  ni:q.c.ni≤1000000
  xi:∀ u∈q.c.xi,u.oneCell'=true
  ms:q.c.ms.length≤1000000
  cd:∀ m∈q.c.ms,(∀ u∈m.xs,u.oneCell'=true)∧m.n≤1000000
  nm:q.c.nm.size≤maxLen
theorem halloc1 (w:World) (o:Obj):(w.alloc o).heap[w.heap.size]?=some o:=by unfold World.alloc;simp
end Go.Proofs.YtkclpcmkplbclaaGreat
