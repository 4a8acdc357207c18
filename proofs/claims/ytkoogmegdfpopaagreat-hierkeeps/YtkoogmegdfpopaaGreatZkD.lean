import Derived.Test.YtkoogmegdfpopaaGreatHrG
set_option maxRecDepth 100000
namespace Go.Proofs.YtkoogmegdfpopaaGreat
open Go.RowKit Go.Maps
theorem Zcz (w:World):(zeroValue 3).run Tryz.prog w=.ok (.int .i64 0) w:=by kernel_rfl
theorem len_any (N b mb:Nat) (ps:List Plc) (vp:Value) (pv:List PV) (W:World) (h:HW W N b mb ps vp pv):Calls Tryz.prog 23 #[.pointer (some ⟨b,0,none⟩)] W fun e w'=>e=.returned (.int .i64 (ps.length:Int))∧w'=W:=by
 obtain ⟨a,c,rfl⟩:=ownv h.row
 have b0:=cell_of_row W b 0 _ _ _ h.hb
 simp only [List.getElem?_toArray,List.getElem?_cons_zero] at b0
 rw [h.len] at b0
 clear h
 go_enter Tryz.func23,Tryz.ntmps23
 go_wp2
 exact bodyPost_ret (results_tmp rfl _ _ _) rfl ⟨rfl,rfl⟩
theorem Zg7 (N b mb:Nat) (ps:List Plc) (vp:Value) (pv:List PV) (nm:ByteArray) (hnz:nm.size≤maxLen) (W:World) (h:HW W N b mb ps vp pv):Calls Tryz.prog 24 #[.pointer (some ⟨b,0,none⟩),.string nm] W fun e w'=>(∃ c:Int,(Yy ps).atKey (.string nm.data.toList) (.lit (.int .i64 0))=.lit (.int .i64 c)∧e=.returned (if Maps.has (Yy ps) (.string nm.data.toList) then .tuple #[.int .i64 c,.int .i64 0] else .tuple #[.int .i64 0,.int .i64 6]))∧Bw W w':=by
 have b1:=cell_of_row W b 1 _ _ _ h.hb
 simp only [List.getElem?_toArray,List.getElem?_cons_zero,List.getElem?_cons_succ] at b1
 obtain ⟨D,hD⟩:∃ D,Yy ps=D:=⟨_,rfl⟩
 have hown:=h.map
 rw [hD] at hown ⊢
 have HOWN:Hid _:=hown
 have hkey:=Go.WideMaps.keyOf_string_mk (P:=Tryz.prog) Tryz.underlying9 hnz
 have HKEY:Hid (keyOf Tryz.prog 9 (.string nm)=some (.string nm.data.toList)):=hkey
 obtain ⟨kl,hkl⟩:∃ k,k=Lit.string nm.data.toList:=⟨_,rfl⟩
 rw [← hkl] at HKEY ⊢
 clear h hD hown hkey hkl
 cases hz:Maps.has D kl with
 | true =>
   go_enter Tryz.func24,Tryz.ntmps24
   go_wp2_with (at_lookup;refine wpList_lookup_own_ok_int _ rfl _ _ 67 rfl 9 3 .i64 law9 Tryz.underlying67 Tryz.underlying3 (Zcz _) mb ps.length D rfl HOWN.out _ _ rfl HKEY.out ?_;intro cc hat hwc;have HAT:Hid _:=hat;clear hat hwc)
   exact bodyPost_ret (results_tmp2 rfl _ _ _) rfl ⟨⟨cc,HAT.out,rfl⟩,Below.refl _ _⟩
 | false =>
   go_enter Tryz.func24,Tryz.ntmps24
   go_wp2_with (at_lookup;refine wpList_lookup_own_ok_int _ rfl _ _ 67 rfl 9 3 .i64 law9 Tryz.underlying67 Tryz.underlying3 (Zcz _) mb ps.length D rfl HOWN.out _ _ rfl HKEY.out ?_;intro cc hat hwc;have HAT:Hid _:=hat;clear hat hwc)
   exact bodyPost_ret (results_tmp2 rfl _ _ _) rfl ⟨⟨⟨cc,HAT.out⟩,rfl⟩,Below.refl _ _⟩
theorem nums3:(Yy P3).atKey (.string tClo.data.toList) (.lit (.int .i64 0))=.lit (.int .i64 1)∧Maps.has (Yy P3) (.string tClo.data.toList)=true:=by
 constructor
 ·rfl
 ·rfl
theorem Zja (W:World):Calls Tryz.prog 4 #[] W fun e w'=>e=.returned (.bool true)∧Bw W w':=by
 have HN:Hid (∀ w:World,Calls Tryz.prog 5 #[] w fun e w'=>e=.returned (.pointer (some ⟨w.heap.size+1,0,none⟩))∧(∃ vp pv,HW w' w.heap.size (w.heap.size+1) w.heap.size P3 vp pv)∧Bw w w'):=Zic
 have HL:Hid (∀ (w:World) (N b mb:Nat) (vp:Value) (pv:List PV),HW w N b mb P3 vp pv→Calls Tryz.prog 23 #[.pointer (some ⟨b,0,none⟩)] w fun e w'=>e=.returned (.int .i64 3)∧w'=w):=fun w N b mb vp pv h=>len_any N b mb P3 vp pv w h
 have HY:Hid (∀ (w:World) (N b mb:Nat) (vp:Value) (pv:List PV),HW w N b mb P3 vp pv→Calls Tryz.prog 24 #[.pointer (some ⟨b,0,none⟩),.string tClo] w fun e w'=>e=.returned (.tuple #[.int .i64 1,.int .i64 0])∧Bw w w'):=fun w N b mb vp pv h=>(Zg7 N b mb P3 vp pv tClo (by decide) w h).mono (by
  rintro e w' ⟨⟨c,hc,he⟩,hb⟩
  refine ⟨?_,hb⟩
  rw [nums3.2,if_pos rfl] at he
  rw [nums3.1] at hc
  injection hc with h1
  injection h1 with _ h2
  rw [he,h2])
 go_enter Tryz.func4,Tryz.ntmps4
 go_wp2_with (first
  | (go_at_call 5;refine (HN.out _).mono ?_;rintro e w1 ⟨rfl,⟨vp,pv,hw⟩,hb⟩;have H1:Hid (HW w1 W.heap.size (W.heap.size+1) W.heap.size P3 vp pv):=hw;have B1:Hid (Bw W w1):=hb;clear hw hb HN)
  | (go_at_call 23;refine (HL.out _ _ _ _ _ _ H1.out).mono ?_;rintro e w9 ⟨rfl,hw9⟩;rw [hw9];clear hw9 w9 HL)
  | (go_at_call 24;refine (HY.out _ _ _ _ _ _ H1.out).mono ?_;rintro e w2 ⟨rfl,hb⟩;have B2:Hid (Bw W w2):=Zj B1.out hb;clear hb HY))
 exact bodyPost_ret (results_tmp rfl _ _ _) rfl ⟨rfl,B2.out⟩
theorem HW.at {w:World} {N b mb:Nat} {ps:List Plc} {vp:Value} {pv:List PV} (h:HW w N b mb ps vp pv) {k:Nat} {q:Plc} (hk:ps[k]?=some q) :
 ∃ g cap p,vp=.slice (some ⟨g,0,none⟩) ps.length cap∧PlcAt w N p q∧∀ j,j<8→w.cell? ⟨g,k * 8+j,none⟩=(pvC p)[j]?:=by
 have hkl:=(List.getElem?_eq_some_iff.1 hk).1
 obtain ⟨p,hp⟩:∃ p,pv[k]?=some p:=⟨_,List.getElem?_eq_getElem (by rw [h.len];exact hkl)⟩
 obtain ⟨g,cap,rfl⟩:=Go.Joins.ownsRow_form h.row (by rw [h.len];omega)
 refine ⟨g,cap,p,by rw [h.len],h.pl k p q hp hk,fun j hj=>?_⟩
 rw [h.row.cellAt (k * 8+j) (by rw [h.len];omega)]
 exact Zaa pv k p hp j hj
theorem Zaq {W:World} {N b mb:Nat} {ps:List Plc} {vp:Value} {pv:List PV} (h:HW W N b mb ps vp pv) (k:Nat) (hk:k<ps.length):Calls Tryz.prog 36 #[.pointer (some ⟨b,0,none⟩),.int .i64 (k:Int)] W fun e w'=>e=.returned (.bool true)∧w'=W:=by
 obtain ⟨a,c,e⟩:=ownv h.row
 rw [h.len] at e
 have hb:=h.hb
 rw [e] at hb
 refine (Zbu b ps.length a c _ (k:Int) W hb).mono ?_
 rintro e w' ⟨rfl,rfl⟩
 exact ⟨by rw [decide_eq_true (Int.natCast_nonneg k),decide_eq_true (by omega)];rfl,rfl⟩
theorem Zik {W:World} {N b mb:Nat} {ps:List Plc} {vp:Value} {pv:List PV} (h:HW W N b mb ps vp pv) (i:Int) (hi:¬ (0≤i∧i<ps.length)):Calls Tryz.prog 36 #[.pointer (some ⟨b,0,none⟩),.int .i64 i] W fun e w'=>e=.returned (.bool false)∧w'=W:=by
 obtain ⟨a,c,e⟩:=ownv h.row
 rw [h.len] at e
 have hb:=h.hb
 rw [e] at hb
 refine (Zbu b ps.length a c _ i W hb).mono ?_
 rintro e w' ⟨rfl,rfl⟩
 refine ⟨?_,rfl⟩
 by_cases h0:0≤i
 ·rw [decide_eq_false (fun h1=>hi ⟨h0,h1⟩),Bool.and_false]
 ·rw [decide_eq_false h0];rfl
theorem Zg5 (N b mb:Nat) (ps:List Plc) (vp:Value) (pv:List PV) (i:Int) (W:World) (h:HW W N b mb ps vp pv) (hi:¬ (0≤i∧i<ps.length)):Calls Tryz.prog 18 #[.pointer (some ⟨b,0,none⟩),.int .i64 i] W fun e w'=>e=.returned (.tuple #[.slice none 0 0,.int .i64 3])∧w'=W:=by
 have HX:Hid (Calls Tryz.prog 36 #[.pointer (some ⟨b,0,none⟩),.int .i64 i] W fun e w'=>e=.returned (.bool false)∧w'=W):=Zik h i hi
 clear h hi
 go_enter Tryz.func18,Tryz.ntmps18
 go_wp2_with (go_at_call 36;refine HX.out.mono ?_;rintro e w9 ⟨rfl,hw9⟩;rw [hw9];clear hw9 w9)
 exact bodyPost_ret (results_tmp2 rfl _ _ _) rfl ⟨rfl,rfl⟩
theorem Ze4 (N b mb:Nat) (ps:List Plc) (vp:Value) (pv:List PV) (k:Nat) (q:Plc) (W:World) (h:HW W N b mb ps vp pv) (hq:ps[k]?=some q) (hn:ps.length≤300):Calls Tryz.prog 18 #[.pointer (some ⟨b,0,none⟩),.int .i64 (k:Int)] W fun e w'=>∃ v,e=.returned (.tuple #[v,.int .i64 0])∧w'.ownsRow W.heap.size 3 1 v q.cl.length (q.cl.map numV)∧Bw W w':=by
 have hkl:=(List.getElem?_eq_some_iff.1 hq).1
 have HX:Hid (Calls Tryz.prog 36 #[.pointer (some ⟨b,0,none⟩),.int .i64 (k:Int)] W fun e w'=>e=.returned (.bool true)∧w'=W):=Zaq h k hkl
 have hwf:=h.wf q (List.mem_of_getElem? hq)
 have hcl:=Yj _ _ hwf.2 hwf.1
 obtain ⟨g,cap,p,rfl,hpl,hcell⟩:=h.at hq
 have b0:=cell_of_row W b 0 _ _ _ h.hb
 simp only [List.getElem?_toArray,List.getElem?_cons_zero] at b0
 have c7:W.cell? ⟨g,k * 8+7,none⟩=some p.vc:=hcell 7 (by omega)
 have HC:Hid (Calls Tryz.prog 44 #[p.vc] W fun e w'=>∃ v',e=.returned v'∧w'.ownsRow W.heap.size 3 1 v' q.cl.length (q.cl.map numV)∧Bw W w'):=Ziv p.vc _ _ W (Zw hpl.clo) (fun u hu=>by obtain ⟨x,_,rfl⟩:=List.mem_map.1 hu;rfl) (by omega)
 have hkI:(k:Int)<(ps.length:Int):=by omega
 clear hcell hpl hq h hwf
 go_enter Tryz.func18,Tryz.ntmps18
 go_wp2_with (first
  | (go_at_call 36;refine HX.out.mono ?_;rintro e w9 ⟨rfl,hw9⟩;rw [hw9];clear hw9 w9)
  | (go_at_call 44;refine HC.out.mono ?_;rintro e w1 ⟨v',rfl,hown,hb⟩;obtain ⟨a',c',rfl⟩:=ownv hown;have O1:Hid _:=hown;have B1:Hid _:=hb;clear hown hb HC))
 exact bodyPost_ret (results_tmp2 rfl _ _ _) rfl ⟨_,rfl,O1.out,B1.out⟩
def ifB (fl:Int):Bool:=bits .and .i64 fl 512 != 0
theorem Zap (nm su:ByteArray) (fl ld:Int) (vi vm:Value) (W:World):Calls Tryz.prog 56 #[.agg #[.string nm,.string su,vi,.int .i64 fl,.int .i64 ld,vm]] W fun e w'=>e=.returned (.bool (ifB fl))∧Bw W w':=by
 go_enter Tryz.func56,Tryz.ntmps56
 go_wp2
 exact bodyPost_ret (results_tmp rfl _ _ _) rfl ⟨rfl,(Below.refl _ _).alloc (Nat.le_refl _) _⟩
theorem Jt (N b mb:Nat) (ps:List Plc) (vp:Value) (pv:List PV) (k:Nat) (q:Plc) (W:World) (h:HW W N b mb ps vp pv) (hq:ps[k]?=some q):Calls Tryz.prog 55 #[.pointer (some ⟨b,0,none⟩),.int .i64 (k:Int)] W fun e w'=>e=.returned (.bool (ifB q.c.fl))∧Bw W w':=by
 have hkl:=(List.getElem?_eq_some_iff.1 hq).1
 have HX:Hid (Calls Tryz.prog 36 #[.pointer (some ⟨b,0,none⟩),.int .i64 (k:Int)] W fun e w'=>e=.returned (.bool true)∧w'=W):=Zaq h k hkl
 obtain ⟨g,cap,p,rfl,hpl,hcell⟩:=h.at hq
 have b0:=cell_of_row W b 0 _ _ _ h.hb
 simp only [List.getElem?_toArray,List.getElem?_cons_zero] at b0
 have c0:W.cell? ⟨g,k * 8,none⟩=some (.string p.nm):=hcell 0 (by omega)
 have c1:W.cell? ⟨g,k * 8+1,none⟩=some (.string p.su):=hcell 1 (by omega)
 have c2:W.cell? ⟨g,k * 8+2,none⟩=some p.vi:=hcell 2 (by omega)
 have c3:W.cell? ⟨g,k * 8+3,none⟩=some (.int .i64 p.fl):=hcell 3 (by omega)
 have c4:W.cell? ⟨g,k * 8+4,none⟩=some (.int .i64 p.ld):=hcell 4 (by omega)
 have c5:W.cell? ⟨g,k * 8+5,none⟩=some p.vm:=hcell 5 (by omega)
 have HI:Hid (∀ w:World,Calls Tryz.prog 56 #[.agg #[.string p.nm,.string p.su,p.vi,.int .i64 p.fl,.int .i64 p.ld,p.vm]] w fun e w'=>e=.returned (.bool (ifB q.c.fl))∧Bw w w'):=fun w=>by rw [← hpl.fl];exact Zap p.nm p.su p.fl p.ld p.vi p.vm w
 have hkI:(k:Int)<(ps.length:Int):=by omega
 clear hcell hpl hq h
 go_enter Tryz.func55,Tryz.ntmps55
 go_wp2_with (first
  | (go_at_call 36;refine HX.out.mono ?_;rintro e w9 ⟨rfl,hw9⟩;rw [hw9];clear hw9 w9 HX)
  | (go_at_call 56;refine (HI.out _).mono ?_;rintro e w1 ⟨rfl,hb⟩;have B1:Hid (Bw W w1):=hb;clear hb HI))
 exact bodyPost_ret (results_tmp rfl _ _ _) rfl ⟨rfl,B1.out⟩
structure PlcB (q:Plc):Prop where
 ni:q.c.ni≤1000000
 xi:∀ u∈q.c.xi,u.oneCell'=true
 ms:q.c.ms.length≤1000000
 cd:∀ m∈q.c.ms,(∀ u∈m.xs,u.oneCell'=true)∧m.n≤1000000
 nm:q.c.nm.size≤maxLen
theorem Xs (w:World) (o:Obj):(w.alloc o).heap[w.heap.size]?=some o:=by unfold World.alloc;simp
theorem OwnC.setCell {w:World} {N:Nat} {vi:Value} {ni:Nat} {xi:List Value} {vm:Value} {qm:List (HM×Value)} (h:OwnC w N vi ni xi vm qm) {a:Addr} (ha:a.block<N) (v:Value):OwnC (w.setCell a v) N vi ni xi vm qm :=
 ⟨ownsRow_setCell_below h.ifs ha _,ownsRow_setCell_below h.ms ha _,fun x hx=>ownsRow_setCell_below (h.cod x hx) ha _⟩
theorem OwnC.le {w:World} {N M:Nat} {vi:Value} {ni:Nat} {xi:List Value} {vm:Value} {qm:List (HM×Value)} (h:OwnC w N vi ni xi vm qm) (hM:M≤N):OwnC w M vi ni xi vm qm :=
 ⟨Go.Joins.ownsRow_le h.ifs hM,Go.Joins.ownsRow_le h.ms hM,fun x hx=>Go.Joins.ownsRow_le (h.cod x hx) hM⟩
theorem class_no (N b mb:Nat) (ps:List Plc) (vp:Value) (pv:List PV) (i:Int) (W:World) (h:HW W N b mb ps vp pv) (hi:¬ (0≤i∧i<ps.length)):Calls Tryz.prog 12 #[.pointer (some ⟨b,0,none⟩),.int .i64 i] W fun e w'=>e=.returned (.tuple #[.agg #[.string ⟨#[]⟩,.string ⟨#[]⟩,.slice none 0 0,.int .i64 0,.int .i64 0,.slice none 0 0],.int .i64 3])∧Bw W w':=by
 have HX:Hid (∀ w:World,Bw W w→Calls Tryz.prog 36 #[.pointer (some ⟨b,0,none⟩),.int .i64 i] w fun e w'=>e=.returned (.bool false)∧w'=w):=fun w hb=>Zik (h.below hb) i hi
 clear h hi
 go_enter Tryz.func12,Tryz.ntmps12
 go_wp2_with (go_at_call 36;refine (HX.out _ ((Below.refl _ _).alloc (Nat.le_refl _) _)).mono ?_;rintro e w9 ⟨rfl,hw9⟩;rw [hw9];clear hw9 w9)
 refine bodyPost_ret (v:=.tuple #[.agg #[.string ⟨#[]⟩,.string ⟨#[]⟩,.slice none 0 0,.int .i64 0,.int .i64 0,.slice none 0 0],.int .i64 3]) (by simp [results,Tryz.results12,go_sem]) rfl ⟨rfl,?_⟩
 repeat (first|exact Below.refl _ _|refine Below.setCell ?_ (by simp;try omega) _|refine Below.alloc ?_ (by simp;try omega) _)
theorem Zi1 (N b mb:Nat) (ps:List Plc) (vp:Value) (pv:List PV) (k:Nat) (q:Plc) (W:World) (h:HW W N b mb ps vp pv) (hq:ps[k]?=some q) (hB:PlcB q):Calls Tryz.prog 12 #[.pointer (some ⟨b,0,none⟩),.int .i64 (k:Int)] W fun e w'=>∃ vi vm qm,e=.returned (.tuple #[.agg #[.string q.c.nm,.string q.c.su,vi,.int .i64 q.c.fl,.int .i64 q.c.ld,vm],.int .i64 0])∧OwnC w' W.heap.size vi q.c.ni q.c.xi vm qm∧qm.map Prod.fst=q.c.ms∧Bw W w':=by
 have hkl:=(List.getElem?_eq_some_iff.1 hq).1
 have HX:Hid (∀ w:World,Bw W w→Calls Tryz.prog 36 #[.pointer (some ⟨b,0,none⟩),.int .i64 (k:Int)] w fun e w'=>e=.returned (.bool true)∧w'=w):=fun w hb=>Zaq (h.below hb) k hkl
 obtain ⟨g,cap,p,rfl,hpl,hcell⟩:=h.at hq
 have b0:=cell_of_row W b 0 _ _ _ h.hb
 simp only [List.getElem?_toArray,List.getElem?_cons_zero] at b0
 obtain ⟨qm,hqm,hoc⟩:=hpl.own
 obtain ⟨ai,ci,hvi⟩:=ownv hoc.ifs
 obtain ⟨am,cm,hvm⟩:=ownv hoc.ms
 have c0:W.cell? ⟨g,k * 8,none⟩=some (.string q.c.nm):=by rw [← hpl.nm];exact hcell 0 (by omega)
 have c1:W.cell? ⟨g,k * 8+1,none⟩=some (.string q.c.su):=by rw [← hpl.su];exact hcell 1 (by omega)
 have c2:W.cell? ⟨g,k * 8+2,none⟩=some (.slice ai q.c.ni ci):=by rw [← hvi];exact hcell 2 (by omega)
 have c3:W.cell? ⟨g,k * 8+3,none⟩=some (.int .i64 q.c.fl):=by rw [← hpl.fl];exact hcell 3 (by omega)
 have c4:W.cell? ⟨g,k * 8+4,none⟩=some (.int .i64 q.c.ld):=by rw [← hpl.ld];exact hcell 4 (by omega)
 have c5:W.cell? ⟨g,k * 8+5,none⟩=some (.slice am qm.length cm):=by rw [← hvm];exact hcell 5 (by omega)
 have hlen:qm.length=q.c.ms.length:=by rw [← hqm];simp
 have HC:Hid (∀ w:World,Bw W w→Calls Tryz.prog 37 #[.agg #[.string q.c.nm,.string q.c.su,.slice ai q.c.ni ci,.int .i64 q.c.fl,.int .i64 q.c.ld,.slice am qm.length cm]] w fun e w'=>∃ vi' vm' qm',e=.returned (.agg #[.string q.c.nm,.string q.c.su,vi',.int .i64 q.c.fl,.int .i64 q.c.ld,vm'])∧OwnC w' w.heap.size vi' q.c.ni q.c.xi vm' qm'∧qm'.map Prod.fst=q.c.ms∧Bw w w'):=by
  intro w hb
  rw [← hvi,← hvm,← hqm]
  refine Ziy _ _ _ _ p.vi p.vm q.c.ni q.c.xi qm w ((Zw hoc.ifs).keep hb) hB.xi hB.ni ((Zw hoc.ms).keep hb) (by rw [hlen];exact hB.ms) (fun x hx=>⟨(Zw (hoc.cod x hx)).keep hb,?_⟩)
  exact hB.cd x.1 (by rw [← hqm];exact List.mem_map_of_mem hx)
 have hkI:(k:Int)<(ps.length:Int):=by omega
 have hlt:b<W.heap.size:=(Array.getElem?_eq_some_iff.1 h.hb).1
 have hlm:¬ b=W.heap.size:=by omega
 have hgl:g<W.heap.size:=World.block_lt_of_cell? W _ c0
 have hgm:¬ g=W.heap.size:=by omega
 clear hcell hpl hq h hB hoc hvi hvm hqm hlen
 go_enter Tryz.func12,Tryz.ntmps12
 go_wp2_with (first
  | (go_at_call 36;refine (HX.out _ ((Below.refl _ _).alloc (Nat.le_refl _) _)).mono ?_;rintro e w9 ⟨rfl,hw9⟩;rw [hw9];clear hw9 w9)
  | (go_at_call 37;refine (HC.out _ ((Below.refl _ _).alloc (Nat.le_refl _) _)).mono ?_;rintro e w1 ⟨vi',vm',qm',rfl,hown,hqm,hb⟩;obtain ⟨a',c',rfl⟩:=ownv hown.ifs;obtain ⟨a2,c2,rfl⟩:=ownv hown.ms;have O1:Hid (OwnC w1 (W.heap.size+1) (.slice a' q.c.ni c') q.c.ni q.c.xi (.slice a2 qm'.length c2) qm'):=hown.le (by simp);have B1:Hid (Bw W w1):=Zj ((Below.refl _ _).alloc (Nat.le_refl _) _) hb;have Q1:Hid _:=hqm;have h0:=(hb.block W.heap.size (by simp)).trans (Xs W _);have r0:=cell_of_row w1 W.heap.size 0 _ _ _ h0;have y0:=frozen_of_row w1 W.heap.size 0 _ _ h0;have r1:=cell_of_row w1 W.heap.size 1 _ _ _ h0;have y1:=frozen_of_row w1 W.heap.size 1 _ _ h0;have r2:=cell_of_row w1 W.heap.size 2 _ _ _ h0;have y2:=frozen_of_row w1 W.heap.size 2 _ _ h0;have r3:=cell_of_row w1 W.heap.size 3 _ _ _ h0;have y3:=frozen_of_row w1 W.heap.size 3 _ _ h0;have r4:=cell_of_row w1 W.heap.size 4 _ _ _ h0;have y4:=frozen_of_row w1 W.heap.size 4 _ _ h0;have r5:=cell_of_row w1 W.heap.size 5 _ _ _ h0;have y5:=frozen_of_row w1 W.heap.size 5 _ _ h0;simp only [List.getElem?_toArray,List.getElem?_cons_zero,List.getElem?_cons_succ] at r0 r1 r2 r3 r4 r5;clear hown hb hqm HC h0))
 refine bodyPost_ret (v:=.tuple #[.agg #[.string q.c.nm,.string q.c.su,.slice a' q.c.ni c',.int .i64 q.c.fl,.int .i64 q.c.ld,.slice a2 qm'.length c2],.int .i64 0]) (by simp [results,Tryz.results12,go_sem, *]) rfl ⟨_,_,qm',rfl,?_,Q1.out,?_⟩
 ·refine OwnC.le (N:=W.heap.size+1) ?_ (by omega)
  repeat (refine OwnC.setCell ?_ (by simp) _)
  exact O1.out
 ·repeat (refine Below.setCell ?_ (by simp) _)
  exact B1.out
structure Tz (S:Nat→Prop) (W w:World):Prop where
 os:w.os=W.os
 tape:w.tape=W.tape
 output:w.output=W.output
 size:W.heap.size≤w.heap.size
 blk:∀ k,k<W.heap.size→¬ S k→w.heap[k]?=W.heap[k]?
theorem Tz.refl (S:Nat→Prop) (W:World):Tz S W W:=⟨rfl,rfl,rfl,Nat.le_refl _,fun _ _ _=>rfl⟩
theorem Tz.bel {S:Nat→Prop} {W w w':World} (h:Tz S W w) (hb:Bw w w'):Tz S W w' :=
 ⟨hb.os.trans h.os,hb.tape.trans h.tape,hb.output.trans h.output,Nat.le_trans h.size hb.size,fun k hk hs=>(hb.block k (Nat.lt_of_lt_of_le hk h.size)).trans (h.blk k hk hs)⟩
theorem Tz.set {S:Nat→Prop} {W w:World} (h:Tz S W w) {p:Addr} (hp:S p.block∨W.heap.size≤p.block) (u:Value):Tz S W (w.setCell p u) :=
 ⟨h.os,h.tape,h.output,by simpa [World.setCell] using h.size,fun k hk hs=>(Below.heap_setCell w p u k (by rintro rfl;rcases hp with hp|hp;exact hs hp;omega)).trans (h.blk k hk hs)⟩
theorem Tz.grown {S:Nat→Prop} {W w w':World} {r:Option Nat} (h:Tz S W w) (hg:w.grownBy w' r) (hr:∀ k,r=some k→S k∨W.heap.size≤k):Tz S W w' :=
 ⟨hg.os.trans h.os,hg.tape.trans h.tape,hg.output.trans h.output,Nat.le_trans h.size hg.size,fun k hk hs=>(hg.block k (Nat.lt_of_lt_of_le hk h.size) (fun e=>by rcases hr k e.symm with x|x;exact hs x;omega)).trans (h.blk k hk hs)⟩
theorem Tz.trans {S S':Nat→Prop} {a b c:World} (h:Tz S a b) (k:Tz S' b c) (hs:∀ k,k<a.heap.size→S' k→S k):Tz S a c :=
 ⟨k.os.trans h.os,k.tape.trans h.tape,k.output.trans h.output,Nat.le_trans h.size k.size,fun i hi hn=>(k.blk i (Nat.lt_of_lt_of_le hi h.size) (fun x=>hn (hs i hi x))).trans (h.blk i hi hn)⟩
theorem Tz.below {S:Nat→Prop} {W w:World} (h:Tz S W w) {N:Nat} (hN:N≤W.heap.size) (hs:∀ k,S k→N≤k):Below N W w :=
 ⟨h.os,h.tape,h.output,h.size,fun k hk=>h.blk k (Nat.lt_of_lt_of_le hk hN) (fun x=>by have:=hs k x;omega)⟩
def ShK (w w':World):Prop:=∀ (g:Nat) (cs:Array Value) (t:TypeId),w.heap[g]?=some (.cells cs t (0,0))→∃ cs':Array Value,w'.heap[g]?=some (.cells cs' t (0,0))∧cs'.size=cs.size
theorem ShK.refl (w:World):ShK w w:=fun _ cs _ h=>⟨cs,h,rfl⟩
theorem ShK.trans {a b c:World} (h:ShK a b) (k:ShK b c):ShK a c:=fun g cs t hg=>by
 obtain ⟨cs1,h1,e1⟩:=h g cs t hg
 obtain ⟨cs2,h2,e2⟩:=k g cs1 t h1
 exact ⟨cs2,h2,e2.trans e1⟩
theorem ShK.set (w:World) (b i:Nat) (v:Value):ShK w (w.setCell ⟨b,i,none⟩ v):=fun g cs t hg=>by
 by_cases e:g=b
 ·subst e
  exact ⟨_,Go.Joins.block_setCell hg v,by simp⟩
 ·exact ⟨cs,(Below.heap_setCell _ _ _ _ e).trans hg,rfl⟩
theorem ShK.bel {w w':World} (hb:Bw w w'):ShK w w':=fun g cs _ hg=>⟨cs,(hb.block g (Array.getElem?_eq_some_iff.1 hg).1).trans hg,rfl⟩
def RwZ (w:World) (S:Nat→Prop) (t s:Nat) (v:Value) (n:Nat):Prop:=(∃ xs,w.ownsRow 0 t s v n xs)∧∀ g,v.ownBlock=some g→S g
theorem RwZ.of {w:World} {S:Nat→Prop} {N t s:Nat} {v:Value} {n:Nat} {xs:List Value} (h:w.ownsRow N t s v n xs) (hs:∀ g,v.ownBlock=some g→S g):RwZ w S t s v n:=⟨⟨xs,Go.Joins.ownsRow_le h (Nat.zero_le _)⟩,hs⟩
theorem RwZ.sh {w w':World} {S:Nat→Prop} {t s:Nat} {v:Value} {n:Nat} (h:RwZ w S t s v n) (k:ShK w w'):RwZ w' S t s v n:=by
 obtain ⟨⟨xs,h1,h2⟩,h3⟩:=h
 refine ⟨?_,h3⟩
 rcases h2 with ⟨rfl,rfl⟩|⟨g,cap,cur,rfl,hb,hg,hn,hm,hz,ht⟩
 ·exact ⟨[],by simp,.inl ⟨rfl,rfl⟩⟩
 ·obtain ⟨cur',hg',hz'⟩:=k g cur t hg
  refine ⟨cur'.toList.take (n * s),?_,.inr ⟨g,cap,cur',rfl,hb,hg',hn,hm,hz'.trans hz,rfl⟩⟩
  rw [List.length_take,Array.length_toList,hz',hz]
  have:=Nat.mul_le_mul_right s hn
  omega
theorem RwZ.mono {w:World} {S S':Nat→Prop} {t s:Nat} {v:Value} {n:Nat} (h:RwZ w S t s v n) (hs:∀ g,S g→S' g):RwZ w S' t s v n:=⟨h.1,fun g hg=>hs g (h.2 g hg)⟩
theorem RwZ.form {w:World} {S:Nat→Prop} {t s:Nat} {v:Value} {n:Nat} (h:RwZ w S t s v n):∃ a c,v=.slice a n c:=by
 obtain ⟨⟨xs,_,h2⟩,_⟩:=h
 rcases h2 with ⟨rfl,rfl⟩|⟨g,cap,cur,rfl,_⟩
 ·exact ⟨none,0,rfl⟩
 ·exact ⟨_,cap,rfl⟩
theorem RwZ.at {w:World} {S:Nat→Prop} {t s:Nat} {v:Value} {n j:Nat} (h:RwZ w S t s v n) (hj:j<n):∃ g cap,∃ cs:Array Value,v=.slice (some ⟨g,0,none⟩) n cap∧w.heap[g]?=some (.cells cs t (0,0))∧j * s+s≤cs.size∧S g∧n≤maxLen:=by
 obtain ⟨⟨xs,h1,h2⟩,h3⟩:=h
 rcases h2 with ⟨rfl,rfl⟩|⟨g,cap,cur,rfl,hb,hg,hn,hm,hz,ht⟩
 ·omega
 ·refine ⟨g,cap,cur,rfl,hg,?_,h3 g rfl,Nat.le_trans hn hm⟩
  rw [hz]
  have:=Nat.mul_le_mul_right s (Nat.le_trans hj hn)
  rw [Nat.succ_mul] at this
  exact this
theorem Zh {w:World} {g:Nat} {cs:Array Value} {t:TypeId} (hg:w.heap[g]?=some (.cells cs t (0,0))) {k:Nat} (hk:k<cs.size):∃ u,w.cell? ⟨g,k,none⟩=some u:=⟨_,(cell_of_row w g k _ _ _ hg).trans (Array.getElem?_eq_getElem hk)⟩
structure StZ (S:Nat→Prop) (W w:World):Prop where
 tz:Tz S W w
 sh:ShK W w
 kt:∀ (g:Nat) (cs:Array Value) (t:TypeId),W.heap[g]?=some (.cells cs t (0,0))→t≠9→t≠48→t≠56→w.heap[g]?=some (.cells cs t (0,0))
theorem StZ.refl (S:Nat→Prop) (W:World):StZ S W W:=⟨Tz.refl _ _,ShK.refl _,fun _ _ _ h _ _ _=>h⟩
theorem StZ.set {S:Nat→Prop} {W w:World} (h:StZ S W w) {g i:Nat} {cs:Array Value} {t:TypeId} (v:Value) (hg:w.heap[g]?=some (.cells cs t (0,0))) (ht:t=9∨t=48∨t=56) (hs:S g∨W.heap.size≤g):StZ S W (w.setCell ⟨g,i,none⟩ v) :=
 { tz:=h.tz.set (p:=⟨g,i,none⟩) hs v
   sh:=h.sh.trans (ShK.set _ _ _ _)
   kt:=fun g' cs' t' h1 h2 h3 h4=>by
    have h5:=h.kt g' cs' t' h1 h2 h3 h4
    have hne:g'≠g:=fun e=>by
     subst e
     rw [hg] at h5
     injection h5 with h5
     injection h5 with _ h6
     subst h6
     rcases ht with e|e|e
     ·exact h2 e
     ·exact h3 e
     ·exact h4 e
    exact (Below.heap_setCell _ _ _ _ hne).trans h5 }
theorem StZ.bel {S:Nat→Prop} {W w w':World} (h:StZ S W w) (hb:Bw w w'):StZ S W w' :=
 ⟨h.tz.bel hb,h.sh.trans (ShK.bel hb),fun g cs t h1 h2 h3 h4=>(hb.block g (Array.getElem?_eq_some_iff.1 (h.kt g cs t h1 h2 h3 h4)).1).trans (h.kt g cs t h1 h2 h3 h4)⟩
theorem StZ.set6 {S:Nat→Prop} {W w:World} (h:StZ S W w) {g:Nat} {cs:Array Value} {t:TypeId} (hg:w.heap[g]?=some (.cells cs t (0,0))) (ht:t=9∨t=48∨t=56) (hs:S g∨W.heap.size≤g) (i0 i1 i2 i3 i4 i5:Nat) (v0 v1 v2 v3 v4 v5:Value):StZ S W ((((((w.setCell ⟨g,i0,none⟩ v0).setCell ⟨g,i1,none⟩ v1).setCell ⟨g,i2,none⟩ v2).setCell ⟨g,i3,none⟩ v3).setCell ⟨g,i4,none⟩ v4).setCell ⟨g,i5,none⟩ v5):=((((((h.set (i:=i0) v0 hg ht hs).set (i:=i1) v1 (Go.Joins.block_setCell hg _) ht hs).set (i:=i2) v2 (Go.Joins.block_setCell (Go.Joins.block_setCell hg _) _) ht hs).set (i:=i3) v3 (Go.Joins.block_setCell (Go.Joins.block_setCell (Go.Joins.block_setCell hg _) _) _) ht hs).set (i:=i4) v4 (Go.Joins.block_setCell (Go.Joins.block_setCell (Go.Joins.block_setCell (Go.Joins.block_setCell hg _) _) _) _) ht hs).set (i:=i5) v5 (Go.Joins.block_setCell (Go.Joins.block_setCell (Go.Joins.block_setCell (Go.Joins.block_setCell (Go.Joins.block_setCell hg _) _) _) _) _) ht hs)
theorem StZ.set7 {S:Nat→Prop} {W w:World} (h:StZ S W w) {g:Nat} {cs:Array Value} {t:TypeId} (hg:w.heap[g]?=some (.cells cs t (0,0))) (ht:t=9∨t=48∨t=56) (hs:S g∨W.heap.size≤g) (i0 i1 i2 i3 i4 i5 i6:Nat) (v0 v1 v2 v3 v4 v5 v6:Value):StZ S W (((((((w.setCell ⟨g,i0,none⟩ v0).setCell ⟨g,i1,none⟩ v1).setCell ⟨g,i2,none⟩ v2).setCell ⟨g,i3,none⟩ v3).setCell ⟨g,i4,none⟩ v4).setCell ⟨g,i5,none⟩ v5).setCell ⟨g,i6,none⟩ v6):=(((((((h.set (i:=i0) v0 hg ht hs).set (i:=i1) v1 (Go.Joins.block_setCell hg _) ht hs).set (i:=i2) v2 (Go.Joins.block_setCell (Go.Joins.block_setCell hg _) _) ht hs).set (i:=i3) v3 (Go.Joins.block_setCell (Go.Joins.block_setCell (Go.Joins.block_setCell hg _) _) _) ht hs).set (i:=i4) v4 (Go.Joins.block_setCell (Go.Joins.block_setCell (Go.Joins.block_setCell (Go.Joins.block_setCell hg _) _) _) _) ht hs).set (i:=i5) v5 (Go.Joins.block_setCell (Go.Joins.block_setCell (Go.Joins.block_setCell (Go.Joins.block_setCell (Go.Joins.block_setCell hg _) _) _) _) _) ht hs).set (i:=i6) v6 (Go.Joins.block_setCell (Go.Joins.block_setCell (Go.Joins.block_setCell (Go.Joins.block_setCell (Go.Joins.block_setCell (Go.Joins.block_setCell hg _) _) _) _) _) _) ht hs)
theorem ShK.grown {w w':World} (h:w.grownBy w' none):ShK w w':=fun g cs t hg=>⟨cs,(h.block g (Array.getElem?_eq_some_iff.1 hg).1 (by simp)).trans hg,rfl⟩
theorem Zb1 {P:Program} (w:World) (base:Nat) (t ty e:TypeId) (i:TypeInfo) (z:Value) (size bytes:Nat) (ht:P.underlying t=some (.slice e)) (hi:P.info? e=some i) (hz:i.zero=some z)
 (hsize:i.size=size) (hby:i.bytes=bytes) (hzs:z.cells.size=size) (hsz:0<size)
 (v:Value) (n:Nat) (xs:List Value) (hown:w.ownsRow base e size v n xs)
 (a:Addr) (m c:Nat) (news:List Value) (hl:news.length=m * size) (hnews:∀ j u,news[j]?=some u→w.cell? (a.add j)=some u) (h1:∀ u∈news,u.oneCell'=true)
 (h63:n+m≤maxLen) (hbytes:(n+m) * bytes≤140737488355328) (hbase:base≤w.heap.size) :
 ∃ v' w',(Builtin.append_ #[t,t] ty #[v,.slice (some a) m c]).run P w=.ok v' w'∧w'.ownsRow base e size v' (n+m) (xs++news)∧w.grownBy w' v.ownBlock∧(∀ k,v'.ownBlock=some k→v.ownBlock=some k∨w.heap.size≤k)∧ShK w w':=by
 obtain ⟨v',w',hr,h2,h3,_⟩:=run_append_own (P:=P) w base t ty e i z size bytes ht hi hz hsize hby hzs hsz v n xs hown a m c news hl hnews h1 h63 hbytes hbase
 refine ⟨v',w',hr,h2,h3,?_⟩
 rcases hown.2 with ⟨rfl,rfl⟩|⟨g,cap,cur,rfl,hb,hg,hnc,hcm,hcs,htk⟩
 ·obtain ⟨v2,w2,hr2,r1,r2,_⟩:=run_append_own (P:=P) w w.heap.size t ty e i z size bytes ht hi hz hsize hby hzs hsz (.slice none 0 0) 0 xs ⟨hown.1,.inl ⟨rfl,rfl⟩⟩ a m c news hl hnews h1 h63 hbytes (Nat.le_refl _)
  rw [hr] at hr2
  injection hr2 with e1 e2
  subst e1 e2
  exact ⟨fun k hk=>.inr (r1.lt k hk).1,ShK.grown r2⟩
 ·by_cases hf:cap<n+m
  ·obtain ⟨v2,w2,hr2,r1,r2⟩:=run_append_arg_grows (P:=P) w t ty e i z size bytes ht hi hz hsize hby hzs hsz ⟨g,0,none⟩ n cap xs hown.1 (hown.cells rfl) a m c news hl hnews hf h63 hbytes
   rw [hr] at hr2
   injection hr2 with e1 e2
   subst e1 e2
   exact ⟨fun k hk=>.inr (r1.lt k hk).1,ShK.grown r2⟩
  ·have hfit:n * i.size+news.length≤cur.size:=by rw [hl,hcs,hsize,← Nat.add_mul];exact Nat.mul_le_mul_right _ (by omega)
   have hr2:=run_append_room (P:=P) w t ty e i ht hi g n cap cur hg a m c news (by rw [hsize];exact hl) hnews h1 (by omega) hfit
   rw [hr] at hr2
   injection hr2 with e1 e2
   subst e1 e2
   refine ⟨fun k hk=>.inl hk,?_⟩
   intro g' cs' t' hg'
   by_cases hgg:g'=g
   ·subst hgg
    rw [hg] at hg'
    injection hg' with hg'
    injection hg' with q1 q2
    subst q1 q2
    refine ⟨_,setRow_heap w g' cur _ e _ hg,?_⟩
    simp only [List.size_toArray,List.length_append,List.length_take,List.length_drop,Array.length_toList]
    omega
   ·exact ⟨cs',(h3.block g' (Array.getElem?_eq_some_iff.1 hg').1 (by simp [Value.ownBlock];exact hgg)).trans hg',rfl⟩
theorem Ym {P:Program} {w:World} {ops:Array Oper} {rest:List Oper} {o:Oper} {a:Act} {Q:Exit→Act→World→Prop} (hgd:o.guard=none) (s x:Operand) (t:TypeId)
 (ho:o.op=.call { callee:=.builtin .append,args:=#[s,x],argTypes:=#[t,t] })
 (base:Nat) (e:TypeId) (i:TypeInfo) (z:Value) (size bytes:Nat) (ht:P.underlying t=some (.slice e)) (hi:P.info? e=some i) (hz:i.zero=some z)
 (hsize:i.size=size) (hby:i.bytes=bytes) (hzs:z.cells.size=size) (hsz:0<size)
 (v:Value) (n:Nat) (xs:List Value) (hs:a.eval s=v) (hown:w.ownsRow base e size v n xs)
 (ad:Addr) (m c:Nat) (news:List Value) (hx:a.eval x=.slice (some ad) m c) (hl:news.length=m * size) (hnews:∀ j u,news[j]?=some u→w.cell? (ad.add j)=some u) (h1:∀ u∈news,u.oneCell'=true)
 (h63:n+m≤maxLen) (hbytes:(n+m) * bytes≤140737488355328) (hbase:base≤w.heap.size)
 (h:∀ v' w',w'.ownsRow base e size v' (n+m) (xs++news)→w.grownBy w' v.ownBlock→(∀ k,v'.ownBlock=some k→v.ownBlock=some k∨w.heap.size≤k)→ShK w w'→wpList P ops Q rest (a.put o.dst v') w') :
 wpList P ops Q (o::rest) a w:=by
 refine wpList_plain hgd fun K hK=>?_
 obtain ⟨v',w',hr,h2,h3,h4,h5⟩:=Zb1 (P:=P) w base t o.type e i z size bytes ht hi hz hsize hby hzs hsz v n xs hown ad m c news hl hnews h1 h63 hbytes hbase
 unfold Oper.wp execOp
 simp only [ho,resolve,invoke,builtin,Sem.run_bind,Sem.run_pure,Result.andThen_ok,List.map_toArray,List.map_cons,List.map_nil,hs,hx,hr]
 exact hK _ _ (h v' w' h2 h3 h4 h5)
theorem StZ.app {S:Nat→Prop} {W w w':World} (h:StZ S W w) {N t s n:Nat} {v:Value} {xs:List Value} (ho:w.ownsRow N t s v n xs) (ht:t=9∨t=48∨t=56) (hs:∀ k,v.ownBlock=some k→S k∨W.heap.size≤k) (hg:w.grownBy w' v.ownBlock) (hk:ShK w w'):StZ S W w' :=
 { tz:=h.tz.grown hg hs
   sh:=h.sh.trans hk
   kt:=fun g cs t' h1 h2 h3 h4=>by
    have h5:=h.kt g cs t' h1 h2 h3 h4
    have hne:t≠t':=fun e=>by
     subst e
     rcases ht with e|e|e
     ·exact h2 e
     ·exact h3 e
     ·exact h4 e
    refine (hg.block g (Array.getElem?_eq_some_iff.1 h5).1 (fun e=>?_)).trans h5
    rcases Ze ho h5 hne with x|x
    ·rw [x] at e;cases e
    ·exact x e.symm }
theorem Zfx {w w':World} {g k:Nat} (h:w'.heap[g]?=w.heap[g]?):w'.cell? ⟨g,k,none⟩=w.cell? ⟨g,k,none⟩:=by simp only [World.cell?,h]
theorem X3 (w:World) (g o k:Nat) (v:Value) (h:o≠k):(w.setCell ⟨g,o,none⟩ v).cell? ⟨g,k,none⟩=w.cell? ⟨g,k,none⟩:=by
 apply World.cell?_setCell_other
 intro e
 exact absurd (congrArg Addr.off e) h
theorem zInst:(Tryz.prog.info? 56).map (fun i=>(i.zero,i.size,i.bytes))=some (some (.agg #[.int .i64 0,.int .i64 0,.string ⟨#[]⟩,.bool false,.string ⟨#[]⟩,.string ⟨#[]⟩,.string ⟨#[]⟩]),7,88):=by kernel_rfl
theorem zMeth:(Tryz.prog.info? 48).map (fun i=>(i.zero,i.size,i.bytes))=some (some (.agg #[.string ⟨#[]⟩,.string ⟨#[]⟩,.int .i64 0,.int .i64 0,.int .i64 0,.slice none 0 0]),6,80):=by kernel_rfl
theorem zStr:(Tryz.prog.info? 9).map (fun i=>(i.zero,i.size,i.bytes))=some (some (.string ⟨#[]⟩),1,16):=by kernel_rfl
structure ClZ (W:World) (S:Nat→Prop) (vI:Value) (nI:Nat) (vM:Value) (us:List (Value×Nat)):Prop where
 ri:RwZ W S 9 1 vI nI
 rm:∃ ys,W.ownsRow 0 48 6 vM us.length ys∧∀ k u,us[k]?=some u→ys[k * 6+5]?=some u.1
 sm:∀ g,vM.ownBlock=some g→S g
 co:∀ u∈us,RwZ W S 56 7 u.1 u.2∧u.2≤1000000
 bi:nI≤1000000
 bm:us.length≤1000000
set_option maxHeartbeats 4000000 in
theorem spoilC_c {W:World} {S:Nat→Prop} {nm su:ByteArray} {fl ld:Int} {vI:Value} {nI:Nat} {vM:Value} {us:List (Value×Nat)} (h:ClZ W S vI nI vM us):Calls Tryz.prog 15 #[.agg #[.string nm,.string su,vI,.int .i64 fl,.int .i64 ld,vM]] W fun e w'=>e=.returned (.tuple #[])∧Tz S W w':=by
 obtain ⟨hi,⟨ys,hm,hy⟩,hsm,hco,bi,bm⟩:=h
 obtain ⟨aI,cI,rfl⟩:=hi.form
 obtain ⟨aM,cM,rfl⟩:=ownv hm
 obtain ⟨iN,hi_iN,hz_iN,hs_iN,hb_iN⟩:=info_parts zInst
 obtain ⟨iM,hi_iM,hz_iM,hs_iM,hb_iM⟩:=info_parts zMeth
 obtain ⟨iS,hi_iS,hz_iS,hs_iS,hb_iS⟩:=info_parts zStr
 obtain ⟨V,hV⟩:∃ V,V=W.alloc (.cells #[.string nm,.string su,.slice aI nI cI,.int .i64 fl,.int .i64 ld,.slice aM us.length cM] 33):=⟨_,rfl⟩
 have bV:Bw W V:=by rw [hV];exact (Below.refl _ _).alloc (Nat.le_refl _) _
 have hbox:V.heap[W.heap.size]?=some (.cells #[.string nm,.string su,.slice aI nI cI,.int .i64 fl,.int .i64 ld,.slice aM us.length cM] 33 (0,0)):=by rw [hV];exact heap_alloc_new W _
 have HB:Hid (∀ w,StZ S V w→w.heap[W.heap.size]?=some (.cells #[.string nm,.string su,.slice aI nI cI,.int .i64 fl,.int .i64 ld,.slice aM us.length cM] 33 (0,0))):=fun w h=>h.kt _ _ _ hbox (by decide) (by decide) (by decide)
 have HVB:Hid (Bw W V):=bV
 have HI:Hid (RwZ V S 9 1 (.slice aI nI cI) nI):=hi.sh (ShK.bel bV)
 have HM:Hid (V.ownsRow 0 48 6 (.slice aM us.length cM) us.length ys):=Zi hm bV
 have HY:Hid (∀ k u,us[k]?=some u→ys[k * 6+5]?=some u.1):=hy
 have HSM:Hid (∀ g,(Value.slice aM us.length cM).ownBlock=some g→S g):=hsm
 have HCO:Hid (∀ u∈us,RwZ V S 56 7 u.1 u.2∧u.2≤1000000):=fun u hu=>⟨(hco u hu).1.sh (ShK.bel bV),(hco u hu).2⟩
 have hVs:W.heap.size<V.heap.size:=(Array.getElem?_eq_some_iff.1 hbox).1
 clear hi hm hy hsm hco hbox bV
 go_enter Tryz.func15,Tryz.ntmps15
 go_wp2
 rw [← hV]
 clear hV
 go_loopw [2] (fun iv wr=>∃ i:Nat,iv=.int .i64 i∧i≤us.length∧Hid (StZ S V wr∧∀ g,aM=some ⟨g,0,none⟩→∀ k u,i≤k→us[k]?=some u→wr.cell? ⟨g,k * 6+5,none⟩=some u.1)) (fun iv _=>us.length - (intOf iv).toNat)
 case atStart =>
  refine ⟨0,rfl,Nat.zero_le _,StZ.refl _ _,fun g hg k u _ hu=>?_⟩
  subst hg
  exact (World.ownsRow.cellAt HM.out (k * 6+5) (by have:=(List.getElem?_eq_some_iff.1 hu).1;omega)).trans (HY.out k u hu)
 case round =>
  obtain ⟨i,rfl,hin,hst⟩:=hrel
  have x5:wr.cell? ⟨W.heap.size,5,none⟩=some (.slice aM us.length cM):=(cell_of_row wr _ 5 _ _ _ (HB.out wr hst.out.1)).trans rfl
  have hbl:W.heap.size<wr.heap.size:=(Array.getElem?_eq_some_iff.1 (HB.out wr hst.out.1)).1
  by_cases hlt:i<us.length
  ·have hi1:(0:Int)≤(i:Int):=by omega
   have hi2:(i:Int)<(us.length:Int):=by omega
   obtain ⟨gM,cp,hf⟩:=Go.Joins.ownsRow_form HM.out (by omega)
   injection hf with e1 _ e2
   subst e1 e2
   obtain ⟨⟨u1,n⟩,hui⟩:∃ u,us[i]?=some u:=⟨_,List.getElem?_eq_getElem hlt⟩
   have hcx:wr.cell? ⟨gM,i * 6+5,none⟩=some u1:=hst.out.2 gM rfl i _ (Nat.le_refl _) hui
   obtain ⟨hrz,hn⟩:=HCO.out _ (List.mem_of_getElem? hui)
   simp only at hrz hn
   have HR:Hid (RwZ V S 56 7 u1 n):=hrz
   obtain ⟨aU,cU,rfl⟩:=hrz.form
   have hgx:gM<wr.heap.size:=World.block_lt_of_cell? wr _ hcx
   have ST:Hid (StZ S V wr∧∀ k u,i<k→us[k]?=some u→wr.cell? ⟨gM,k * 6+5,none⟩=some u.1):=⟨hst.out.1,fun k u hk hu=>hst.out.2 gM rfl k u (Nat.le_of_lt hk) hu⟩
   obtain ⟨cs0,hg0⟩:∃ cs0:Array Value,V.heap[gM]?=some (.cells cs0 48 (0,0))∧us.length * 6≤cs0.size:=by
    rcases HM.out.2 with ⟨h,_⟩|⟨g,cap,cur,hv,_,hg,hc1,_,hc3,_⟩
    ·cases h
    ·cases hv;exact ⟨_,hg,by rw [hc3];exact Nat.mul_le_mul_right 6 hc1⟩
   have HG0:Hid (V.heap[gM]?=some (.cells cs0 48 (0,0))∧us.length * 6≤cs0.size):=hg0
   have hSM:S gM:=HSM.out gM rfl
   clear hst hrz hui hg0
   go_wp2
   clear x5 hcx
   go_loopw [4] (fun jv wq=>∃ j:Nat,jv=.int .i64 j∧j≤n∧Hid (StZ S V wq∧∀ k u,i<k→us[k]?=some u→wq.cell? ⟨gM,k * 6+5,none⟩=some u.1)) (fun jv _=>n - (intOf jv).toNat)
   case atStart=>exact ⟨0,rfl,Nat.zero_le _,ST⟩
   case round =>
    clear ST
    obtain ⟨j,rfl,hjn,hst⟩:=hrel
    by_cases hjl:j<n
    ·obtain ⟨g,cap,cs,hv,hg,hz,hS,hmx⟩:=(HR.out.sh hst.out.1.sh).at hjl
     cases hv
     have hj1:(0:Int)≤(j:Int):=by omega
     have hj2:(j:Int)<(n:Int):=by omega
     have hfz:=fun k=>frozen_of_row wr g k _ _ hg
     have hgl:g<wr.heap.size:=(Array.getElem?_eq_some_iff.1 hg).1
     have hne:gM≠g:=fun e=>by
      subst e
      obtain ⟨cs1,hx,_⟩:=hst.out.1.sh _ _ _ HG0.out.1
      rw [hg] at hx
      injection hx with hx
      injection hx with _ hx
      exact absurd hx (by decide)
     obtain ⟨u0,x0⟩:=Zh hg (k:=j * 7) (by omega)
     obtain ⟨u1,x1⟩:=Zh hg (k:=j * 7+1) (by omega)
     obtain ⟨u2,x2⟩:=Zh hg (k:=j * 7+2) (by omega)
     obtain ⟨u3,x3⟩:=Zh hg (k:=j * 7+3) (by omega)
     obtain ⟨u4,x4⟩:=Zh hg (k:=j * 7+4) (by omega)
     obtain ⟨u5,x5⟩:=Zh hg (k:=j * 7+5) (by omega)
     obtain ⟨u6,x6⟩:=Zh hg (k:=j * 7+6) (by omega)
     have HG:Hid (wr.heap[g]?=some (.cells cs 56 (0,0))):=hg
     clear hg hz hmx
     go_wp2
     have R:Hid (StZ S V _):=hst.out.1.set7 HG.out (.inr (.inr rfl)) (.inl hS) (j * 7) (j * 7+1) (j * 7+2) (j * 7+3) (j * 7+4) (j * 7+5) (j * 7+6) (.int .i64 6) (.int .i64 0) (.string ⟨#[]⟩) (.bool false) (.string ⟨#[]⟩) (.string ⟨#[]⟩) (.string ⟨#[]⟩)
     refine ⟨⟨j+1,by go_num,by omega,R,fun k u hk hu=>?_⟩,?_⟩
     ·refine Eq.trans (Zfx ?_) (hst.out.2 k u hk hu)
      exact (Below.heap_setCell _ _ _ _ hne).trans ((Below.heap_setCell _ _ _ _ hne).trans ((Below.heap_setCell _ _ _ _ hne).trans ((Below.heap_setCell _ _ _ _ hne).trans ((Below.heap_setCell _ _ _ _ hne).trans ((Below.heap_setCell _ _ _ _ hne).trans (Below.heap_setCell _ _ _ _ hne))))))
     ·clear R HG
      simp [intOf];omega
    ·have hj2:¬ (j:Int)<(n:Int):=by omega
     have S2:Hid (StZ S V wr∧∀ k u,i<k→us[k]?=some u→wr.cell? ⟨gM,k * 6+5,none⟩=some u.1):=hst.out
     clear hst
     go_wp2
     go_loopw [3,5] (fun lv kv wq=>∃ (q:Nat) (a':Option Addr) (c':Nat),lv=.slice a' (n+q) c'∧kv=.int .i64 q∧q≤3∧Hid ((StZ S V wq∧∀ k u,i<k→us[k]?=some u→wq.cell? ⟨gM,k * 6+5,none⟩=some u.1)∧RwZ wq (fun g=>S g∨V.heap.size≤g) 56 7 (.slice a' (n+q) c') (n+q))) (fun _ kv _=>3 - (intOf kv).toNat)
     case atStart=>exact ⟨0,_,_,rfl,rfl,Nat.zero_le _,S2.out,(HR.out.sh S2.out.1.sh).mono (fun _ x=>.inl x)⟩
     case round =>
      clear S2 hj2 hjl hjn
      obtain ⟨q,a',c',rfl,rfl,hq,hst⟩:=hrel
      by_cases hq3:q<3
      ·have hqI:(q:Int)<3:=by omega
       obtain ⟨⟨zs,hz⟩,hzS⟩:=hst.out.2
       have HZ:Hid (wr.ownsRow 0 56 7 (.slice a' (n+q) c') (n+q) zs):=hz
       have hxI:∀ g,Value.ownBlock (.slice a' (n+q) c')=some g→S g∨V.heap.size≤g:=hzS
       have HS:Hid (StZ S V wr∧∀ k u,i<k→us[k]?=some u→wr.cell? ⟨gM,k * 6+5,none⟩=some u.1):=hst.out.1
       clear hst hz hzS
       go_wp2_with (at_builtin;refine Ym rfl _ _ 46 rfl 0 56 iN _ 7 88 Tryz.underlying46 hi_iN hz_iN hs_iN hb_iN rfl (by decide) (.slice a' (n+q) c') (n+q) zs rfl (HZ.out.alloc _) ⟨wr.heap.size,0,none⟩ 1 1 [.int .i64 6,.int .i64 0,.string ⟨#[]⟩,.bool false,.string ⟨#[]⟩,.string ⟨#[]⟩,.string ⟨#[]⟩] rfl rfl ?c1 ?c2 ?c3 ?c4 ?c5 ?_)
       case c1=>exact World.news_of_block (cs:=#[.int .i64 6,.int .i64 0,.string ⟨#[]⟩,.bool false,.string ⟨#[]⟩,.string ⟨#[]⟩,.string ⟨#[]⟩]) (heap_alloc_new _ _)
       case c2=>intro u hu;simp at hu;rcases hu with rfl|rfl|rfl|rfl|rfl <;> rfl
       case c3=>unfold maxLen;omega
       case c4=>omega
       case c5=>exact Nat.zero_le _
       intro v' w4 hown hgrow hblk hsh
       obtain ⟨a4,c4,rfl⟩:=ownv hown
       have R0:StZ S V (wr.alloc (.cells #[.int .i64 6,.int .i64 0,.string ⟨#[]⟩,.bool false,.string ⟨#[]⟩,.string ⟨#[]⟩,.string ⟨#[]⟩] 56)):=HS.out.1.bel ((Below.refl _ _).alloc (Nat.le_refl _) _)
       have R1:Hid (StZ S V w4):=R0.app (HZ.out.alloc _) (.inr (.inr rfl)) hxI hgrow hsh
       have hVz:V.heap.size≤wr.heap.size:=HS.out.1.tz.size
       have hgM2:gM<wr.heap.size:=by
        obtain ⟨cs1,hx,_⟩:=HS.out.1.sh _ _ _ HG0.out.1
        exact (Array.getElem?_eq_some_iff.1 hx).1
       have hneM:some gM≠Value.ownBlock (.slice a' (n+q) c'):=by
        obtain ⟨cs1,hx,_⟩:=HS.out.1.sh _ _ _ HG0.out.1
        rcases Ze HZ.out hx (by decide) with e|e
        ·rw [e];simp
        ·exact fun e2=>e e2.symm
       have R2:Hid (∀ k u,i<k→us[k]?=some u→w4.cell? ⟨gM,k * 6+5,none⟩=some u.1):=fun k u hk hu=>by
        refine Eq.trans (Zfx ?_) (HS.out.2 k u hk hu)
        exact (hgrow.block gM (by simp;omega) hneM).trans (heap_alloc_old _ _ hgM2)
       have R3:Hid (RwZ w4 (fun g=>S g∨V.heap.size≤g) 56 7 (.slice a4 (n+q+1) c4) (n+q+1)):=⟨⟨_,hown⟩,fun g hg=>(hblk g hg).elim (fun x=>hxI g x) (fun x=>.inr (by first|omega|(simp at x;omega)))⟩
       clear hown hgrow hblk hsh R0 HS HZ hneM hgM2 hVz hxI
       go_wp2
       refine ⟨⟨q+1,a4,c4,rfl,by go_num,by omega,⟨R1.out,R2.out⟩,R3.out⟩,?_⟩
       clear R1 R2 R3
       simp [intOf];omega
      ·obtain rfl:q=3:=by omega
       have hqI:¬ ((3:Nat):Int)<3:=by omega
       obtain ⟨cs1,hx,hx2⟩:=hst.out.1.1.sh _ _ _ HG0.out.1
       have hz:=HG0.out.2
       have x5:wr.cell? ⟨W.heap.size,5,none⟩=some (.slice (some ⟨gM,0,none⟩) us.length cM):=(cell_of_row wr _ 5 _ _ _ (HB.out wr hst.out.1.1)).trans rfl
       have hbl2:W.heap.size<wr.heap.size:=(Array.getElem?_eq_some_iff.1 (HB.out wr hst.out.1.1)).1
       have hfz:=fun k=>frozen_of_row wr gM k _ _ hx
       have hgl:gM<wr.heap.size:=(Array.getElem?_eq_some_iff.1 hx).1
       obtain ⟨u0,m0⟩:=Zh hx (k:=i * 6) (by omega)
       obtain ⟨u1,m1⟩:=Zh hx (k:=i * 6+1) (by omega)
       obtain ⟨u2,m2⟩:=Zh hx (k:=i * 6+2) (by omega)
       obtain ⟨u3,m3⟩:=Zh hx (k:=i * 6+3) (by omega)
       obtain ⟨u4,m4⟩:=Zh hx (k:=i * 6+4) (by omega)
       obtain ⟨u5,m5⟩:=Zh hx (k:=i * 6+5) (by omega)
       have HX:Hid (wr.heap[gM]?=some (.cells cs1 48 (0,0))):=hx
       have HS:Hid (StZ S V wr∧∀ k u,i<k→us[k]?=some u→wr.cell? ⟨gM,k * 6+5,none⟩=some u.1):=hst.out.1
       clear hst hx hx2 hz
       go_wp2
       have R:Hid (StZ S V _):=HS.out.1.set6 HX.out (.inr (.inl rfl)) (.inl hSM) (i * 6) (i * 6+1) (i * 6+2) (i * 6+3) (i * 6+4) (i * 6+5) (.string ⟨#[115,112,111,105,108,116]⟩) (.string ⟨#[]⟩) (.int .i64 0) (.int .i64 0) (.int .i64 0) (Value.slice a' (n+3) c')
       refine ⟨⟨i+1,by go_num,by omega,R,fun g hg k u hk hu=>?_⟩,?_⟩
       ·cases hg
        refine Eq.trans ?_ (HS.out.2 k u hk hu)
        rw [X3 _ _ _ _ _ (by omega),X3 _ _ _ _ _ (by omega),X3 _ _ _ _ _ (by omega),X3 _ _ _ _ _ (by omega),X3 _ _ _ _ _ (by omega),X3 _ _ _ _ _ (by omega)]
       ·clear R HX HS
        simp [intOf];omega
  ·have hi2:¬ (i:Int)<(us.length:Int):=by omega
   have S4:Hid (StZ S V wr):=hst.out.1
   clear hst HCO HY
   go_wp2
   clear x5
   go_loopw [6] (fun iv wq=>∃ i:Nat,iv=.int .i64 i∧i≤nI∧Hid (StZ S V wq)) (fun iv _=>nI - (intOf iv).toNat)
   case atStart=>exact ⟨0,rfl,Nat.zero_le _,S4⟩
   case round =>
    clear S4 hi2 hlt hin
    obtain ⟨i2,rfl,hin,hst⟩:=hrel
    have x2:wr.cell? ⟨W.heap.size,2,none⟩=some (.slice aI nI cI):=(cell_of_row wr _ 2 _ _ _ (HB.out wr hst.out)).trans rfl
    have x5:wr.cell? ⟨W.heap.size,5,none⟩=some (.slice aM us.length cM):=(cell_of_row wr _ 5 _ _ _ (HB.out wr hst.out)).trans rfl
    have hbl3:W.heap.size<wr.heap.size:=(Array.getElem?_eq_some_iff.1 (HB.out wr hst.out)).1
    by_cases hlt:i2<nI
    ·obtain ⟨g,cap,cs,hv,hg,hz,hS,hmx⟩:=(HI.out.sh hst.out.sh).at hlt
     cases hv
     have hi1:(0:Int)≤(i2:Int):=by omega
     have hi2:(i2:Int)<(nI:Int):=by omega
     have hfz:=fun k=>frozen_of_row wr g k _ _ hg
     have hgl:g<wr.heap.size:=(Array.getElem?_eq_some_iff.1 hg).1
     obtain ⟨u,hcl⟩:=Zh hg (k:=i2) (by omega)
     have HG:Hid (wr.heap[g]?=some (.cells cs 9 (0,0))):=hg
     have R:Hid (StZ S V (wr.setCell ⟨g,i2,none⟩ (.string ⟨#[115,112,111,105,108,116]⟩))):=hst.out.set _ HG.out (.inl rfl) (.inl hS)
     clear hg hz hmx HM hst
     go_wp2
     refine ⟨⟨i2+1,by go_num,by omega,R⟩,?_⟩
     clear R HG
     simp [intOf];omega
    ·have hi2:¬ (i2:Int)<(nI:Int):=by omega
     have S5:Hid (StZ S V wr):=hst.out
     clear hst
     go_wp2
     clear x2 x5
     go_loopw [7,8,9] (fun xv yv kv wq=>∃ (q:Nat) (a1:Option Addr) (c1:Nat) (a2:Option Addr) (c2:Nat),xv=.slice a1 (nI+q) c1∧yv=.slice a2 (us.length+q) c2∧kv=.int .i64 q∧q≤3∧Hid (StZ S V wq∧RwZ wq (fun g=>S g∨V.heap.size≤g) 9 1 (.slice a1 (nI+q) c1) (nI+q)∧RwZ wq (fun g=>S g∨V.heap.size≤g) 48 6 (.slice a2 (us.length+q) c2) (us.length+q))) (fun _ _ kv _=>3 - (intOf kv).toNat)
     case atStart=>exact ⟨0,_,_,_,_,rfl,rfl,rfl,Nat.zero_le _,S5.out,(HI.out.sh S5.out.sh).mono (fun _ x=>.inl x),((RwZ.of HM.out HSM.out).sh S5.out.sh).mono (fun _ x=>.inl x)⟩
     case round =>
      clear S5 hi2 hlt hin
      obtain ⟨q,a1,c1,a2,c2,rfl,rfl,rfl,hq,hst⟩:=hrel
      by_cases hq3:q<3
      ·have hqI:(q:Int)<3:=by omega
       obtain ⟨hS0,⟨⟨z1,hz1⟩,hs1⟩,hr2⟩:=hst.out
       have HZ1:Hid (wr.ownsRow 0 9 1 (.slice a1 (nI+q) c1) (nI+q) z1):=hz1
       have hs1:∀ g,Value.ownBlock (.slice a1 (nI+q) c1)=some g→S g∨V.heap.size≤g:=hs1
       have HR2:Hid (RwZ wr (fun g=>S g∨V.heap.size≤g) 48 6 (.slice a2 (us.length+q) c2) (us.length+q)):=hr2
       have HS0:Hid (StZ S V wr):=hS0
       have hVz:V.heap.size≤wr.heap.size:=hS0.tz.size
       clear hst hz1 hr2 hS0
       go_wp2_with (at_builtin;refine Ym rfl _ _ 30 rfl 0 9 iS _ 1 16 Tryz.underlying30 hi_iS hz_iS hs_iS hb_iS rfl (by decide) (.slice a1 (nI+q) c1) (nI+q) z1 rfl (HZ1.out.alloc _) ⟨wr.heap.size,0,none⟩ 1 1 [.string ⟨#[115,112,111,105,108,116]⟩] rfl rfl ?e1 ?e2 ?e3 ?e4 ?e5 ?_)
       case e2=>first|rfl|(intro u hu;simp at hu;rw [hu];rfl)
       case e3=>unfold maxLen;omega
       case e4=>omega
       intro v' w4 hown hgrow hblk hsh
       obtain ⟨a4,c4,rfl⟩:=ownv hown
       have R0:StZ S V (wr.alloc (.cells #[.string ⟨#[115,112,111,105,108,116]⟩] 9)):=HS0.out.bel ((Below.refl _ _).alloc (Nat.le_refl _) _)
       have R1:Hid (StZ S V w4):=R0.app (HZ1.out.alloc _) (.inl rfl) hs1 hgrow hsh
       have R3:Hid (RwZ w4 (fun g=>S g∨V.heap.size≤g) 9 1 (.slice a4 (nI+q+1) c4) (nI+q+1)):=⟨⟨_,hown⟩,fun g hg=>(hblk g hg).elim (fun x=>hs1 g x) (fun x=>.inr (by first|omega|(simp at x;omega)))⟩
       have R5:Hid (RwZ w4 (fun g=>S g∨V.heap.size≤g) 48 6 (.slice a2 (us.length+q) c2) (us.length+q)):=(HR2.out.sh (ShK.bel ((Below.refl _ _).alloc (Nat.le_refl _) _))).sh hsh
       clear hown hgrow hblk hsh R0 HS0 HZ1 HR2 hs1 hVz
       obtain ⟨⟨z2,hz2⟩,hs2⟩:=R5.out
       have HZ2:Hid (w4.ownsRow 0 48 6 (.slice a2 (us.length+q) c2) (us.length+q) z2):=hz2
       have hs2:∀ g,Value.ownBlock (.slice a2 (us.length+q) c2)=some g→S g∨V.heap.size≤g:=hs2
       have hVz:V.heap.size≤w4.heap.size:=R1.out.tz.size
       clear hz2 R5
       go_wp2_with (at_builtin;refine Ym rfl _ _ 31 rfl 0 48 iM _ 6 80 Tryz.underlying31 hi_iM hz_iM hs_iM hb_iM rfl (by decide) (.slice a2 (us.length+q) c2) (us.length+q) z2 rfl (HZ2.out.alloc _) ⟨w4.heap.size,0,none⟩ 1 1 [.string ⟨#[115,112,111,105,108,116]⟩,.string ⟨#[]⟩,.int .i64 0,.int .i64 0,.int .i64 0,.slice none 0 0] rfl rfl ?d1 ?d2 ?d3 ?d4 ?d5 ?_)
       case d2=>first|rfl|(intro u hu;simp at hu;rcases hu with rfl|rfl|rfl|rfl <;> rfl)|(refine ⟨rfl,rfl,rfl,rfl,rfl,rfl⟩)|(simp [Value.oneCell'];done)|trace_state
       case d3=>unfold maxLen;omega
       case d4=>omega
       intro v' w6 hown hgrow hblk hsh
       obtain ⟨a6,c6,rfl⟩:=ownv hown
       have R0:StZ S V (w4.alloc (.cells #[.string ⟨#[115,112,111,105,108,116]⟩,.string ⟨#[]⟩,.int .i64 0,.int .i64 0,.int .i64 0,.slice none 0 0] 48)):=R1.out.bel ((Below.refl _ _).alloc (Nat.le_refl _) _)
       have Q1:Hid (StZ S V w6):=R0.app (HZ2.out.alloc _) (.inr (.inl rfl)) hs2 hgrow hsh
       have Q3:Hid (RwZ w6 (fun g=>S g∨V.heap.size≤g) 9 1 (.slice a4 (nI+q+1) c4) (nI+q+1)):=(R3.out.sh (ShK.bel ((Below.refl _ _).alloc (Nat.le_refl _) _))).sh hsh
       have Q5:Hid (RwZ w6 (fun g=>S g∨V.heap.size≤g) 48 6 (.slice a6 (us.length+q+1) c6) (us.length+q+1)):=⟨⟨_,hown⟩,fun g hg=>(hblk g hg).elim (fun x=>hs2 g x) (fun x=>.inr (by first|omega|(simp at x;omega)))⟩
       clear hown hgrow hblk hsh R0 R1 R3 HZ2 hs2 hVz
       go_wp2
       refine ⟨⟨q+1,a4,c4,a6,c6,rfl,rfl,by go_num,by omega,Q1.out,Q3.out,Q5.out⟩,?_⟩
       clear Q1 Q3 Q5
       simp [intOf];omega
      ·obtain rfl:q=3:=by omega
       have hqI:¬ ((3:Nat):Int)<3:=by omega
       obtain ⟨hS0,hr1,_⟩:=hst.out
       obtain ⟨g,cap,cs,hv,hg,hz,hS,hmx⟩:=hr1.at (j:=0) (by omega)
       cases hv
       have hfz:=fun k=>frozen_of_row wr g k _ _ hg
       have hgl:g<wr.heap.size:=(Array.getElem?_eq_some_iff.1 hg).1
       obtain ⟨u,hcl⟩:=Zh hg (k:=0) (by omega)
       have R:Hid (StZ S V (wr.setCell ⟨g,0,none⟩ (.string ⟨#[115,112,111,105,108,116]⟩))):=hS0.set _ hg (.inl rfl) hS
       have y1:(0:Int)<(nI:Int)+3:=by omega
       have y2:(0:Int)<(us.length:Int)+3:=by omega
       have y3:decide ((0:Int)<(nI:Int)+3)=true:=by simpa using y1
       have y4:decide ((0:Int)<(us.length:Int)+3)=true:=by simpa using y2
       clear hst hr1 hg hz hmx hS0
       go_wp2
       refine bodyPost_end (results_none rfl _ _ _) rfl ⟨rfl,?_⟩
       exact ((Tz.refl _ W).bel HVB.out).trans R.out.tz (fun _ _ x=>x)
end Go.Proofs.YtkoogmegdfpopaaGreat
