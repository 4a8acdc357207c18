import Derived.Test.YtfbhjfpkhofifaaGreatDoorRdG
set_option maxHeartbeats 4000000
set_option maxRecDepth 100000
namespace Go.Proofs.YtfbhjfpkhofifaaGreatDoor
open Go.RowKit
theorem Tryz.info34:(Tryz.prog.info? 34).map (fun i=>(i.zero,i.size,i.bytes))=some (some (.agg #[.string ⟨#[]⟩,.string ⟨#[]⟩,.int .i64 0,.int .i64 0,.int .i64 0,.slice none 0 0]),6,80):=by kernel_rfl
theorem Tryz.info73:(Tryz.prog.info? 73).map (fun i=>(i.zero,i.size,i.bytes))=some (some (.agg #[.int .i64 0,.int .i64 0,.string ⟨#[]⟩,.bool false,.string ⟨#[]⟩,.string ⟨#[]⟩,.string ⟨#[]⟩]),7,88):=by kernel_rfl
theorem ms_rel {W w1 w2:World} {b:Nat} {cs mc:Array Value} {vi vm vm':Value} {c:Cls} {pm:List (Mth×Value)} {B:Nat} {o:Obj} {m:Mth} (hb:Bw W w1) (hh:w1.heap[b]?=some (.cells cs 123 (0,0))) (hr:RowC w1 W.heap.size vi vm c pm B) (hm:m.code=[])
 (hg:(((w1.alloc (.cells mc 34)).drew).alloc o).grownBy w2 vm.ownBlock) (ho:w2.ownsRow W.heap.size 34 6 vm' (pm.length+1) (Qk pm++mthC (m,.slice none 0 0))) :
 w2.heap[b]?=some (.cells cs 123 (0,0))∧w2.heap[w1.heap.size]?=some (.cells mc 34 (0,0))∧RowC w2 W.heap.size vi vm' { c with ms:=c.ms++[m] } (pm++[(m,.slice none 0 0)]) w2.heap.size∧Bw W w2:=by
 have hlt:b<w1.heap.size:=(Array.getElem?_eq_some_iff.1 hh).1;have hst:Bw w1 (((w1.alloc (.cells mc 34)).drew).alloc o):=(((Below.refl _ _).alloc (Nat.le_refl _) _).drew).alloc (by simp) _;have hz:(((w1.alloc (.cells mc 34)).drew).alloc o).heap.size=w1.heap.size+2:=by simp
 have ha:(((w1.alloc (.cells mc 34)).drew).alloc o).heap[b]?=some (.cells cs 123 (0,0)):=(hst.block b hlt).trans hh;have hn:(((w1.alloc (.cells mc 34)).drew).alloc o).heap[w1.heap.size]?=some (.cells mc 34 (0,0)):=((World.grownBy_alloc (w1.alloc (.cells mc 34)).drew o none).block w1.heap.size (by simp) (by simp)).trans (heap_alloc_new w1 _);have hra:RowC (((w1.alloc (.cells mc 34)).drew).alloc o) W.heap.size vi vm c pm B:=hr.below hst;have hbs:=hb.size;refine ⟨?_,?_,hra.method hm hg ho,?_⟩
 ·rw [hg.block b (by omega) (Qe hra.ms ha (by decide))];exact ha
 ·rw [hg.block w1.heap.size (by omega) (fun e=>by have:=(hr.ms.lt _ e.symm).2;omega)];exact hn
 ·exact (hb.trans (hst.mono hb.size)).grown hg (by omega) (fun k hk=>(hr.ms.lt k hk).1)
theorem Zax (w:World) (n:Nat) (hn:w.heap.size=n) (t:TypeId) (a0 a1 a2 a3 a4 a5:Value):∀ j u,[a0,a1,a2,a3,a4,a5][j]?=some u→(w.alloc (.cells #[a0,a1,a2,a3,a4,a5] t)).cell? ((⟨n,0,none⟩:Addr).add j)=some u:=by
 intro j u hj;rw [add0,← hn,cell_of_row _ _ _ _ _ _ (heap_alloc_new w _)]
 simpa using hj
theorem Zig (W w:World) (b st:Nat) (c:Cls) (hb:Bw W w) (hr:Rdr w W.heap.size b st c) :
 Calls Tryz.prog 127 #[.pointer (some ⟨b,0,none⟩),.string ⟨#[101,110,100]⟩] w fun e w'=>Took W b (some (8,c)) e w':=by
 obtain ⟨vi,vm,pm,B,hNb,hh,hR⟩:=hr;have hlt:b<w.heap.size:=(Array.getElem?_eq_some_iff.1 hh).1;have c0:=cell_of_row w b 0 _ _ _ hh;have y0:=frozen_of_row w b 0 _ _ hh;simp only [List.getElem?_toArray,List.getElem?_cons_zero] at c0;have HR:Hid _:=hR;have HB:Hid _:=hb;have HH:Hid _:=hh;clear hR hb hh;go_enter Tryz.func127,Tryz.ntmps127;go_wp2;go_ret
 obtain ⟨h2,r2⟩:=Qm HH.out HR.out 0 (.int .i64 8);exact Xn ⟨vi,vm,pm,B,hNb,h2,r2⟩ (Za HB.out hNb _ _)
theorem Zna (W w:World) (b st:Nat) (c:Cls) (s:ByteArray) (hs:s.size≤40000) (hG:GP W) (hb:Bw W w) (hr:Rdr w W.heap.size b st c) (hk:c.ms.length≤50000) (he:(s.data.toList == wEnd)=false) :
 Calls Tryz.prog 127 #[.pointer (some ⟨b,0,none⟩),.string s] w fun e w'=>Took W b (Jr c s.data.toList) e w':=by
 obtain ⟨i0,hi,hz0,hz1,hz2⟩:=info_parts Tryz.info34;obtain ⟨vi,vm,pm,B,hNb,hh,hR⟩:=hr;have hlt:b<w.heap.size:=(Array.getElem?_eq_some_iff.1 hh).1;have hpl:pm.length≤50000:=by rw [hR.len];exact hk
 have HC:Hid (Calls Tryz.prog 160 _ w _):=Zd4 s hs w (hG.keep hb);have HR:Hid _:=hR;have HB:Hid _:=hb;have HST:Hid (Jr c s.data.toList=if (fstW s.data.toList == Zq)&&mlB s.data.toList then some (5,{ c with ms:=c.ms++[⟨⟨(mlN s.data.toList).toArray⟩,⟨(mlD s.data.toList).toArray⟩,fgN mthP (mlF s.data.toList),0,0,[]⟩] }) else none):=by rw [Hid,Jr,he];rfl
 have he2:(s.toList == [101,110,100])=false:=by rw [Lib.toList_data];exact he
 have hbs:=hb.size;clear hR hG hs hb he;obtain ⟨RR,hRR⟩:∃ r,Jr c s.data.toList=r:=⟨_,rfl⟩;rw [hRR];rw [hRR] at HST;clear hRR;go_enter Tryz.func127,Tryz.ntmps127;go_wp2_with (first
  | (go_at_call 160;refine HC.out.mono ?_;rintro e w1 ⟨⟨nm,ds,f,er,rfl,her⟩,hb1⟩;simp only [mtV];have HER:Hid (if ((fstW s.data.toList == Zq)&&mlB s.data.toList)=true then er=.nilIface∧nm=⟨(mlN s.data.toList).toArray⟩∧ds=⟨(mlD s.data.toList).toArray⟩∧f=fgN mthP (mlF s.data.toList) else ErrV er):=her;have hb2:=hb1.block b hlt;rw [hh] at hb2;have z6:=cell_of_row w1 b 6 _ _ _ hb2;simp only [List.getElem?_toArray,List.getElem?_cons_zero,List.getElem?_cons_succ] at z6;have HH:Hid _:=hb2;have hlt1:b<w1.heap.size:=Nat.lt_of_lt_of_le hlt hb1.size;have B1:Hid (Bw W w1):=Below.step HB.out hb1;have R1:Hid _:=HR.out.below hb1;have hs1:=B1.out.size;clear hb2 hb1 HC her HB HR))
 go_region_law
  (first
   | (refine step_append_lies _ rfl (.tmp 22) (.tmp 24) 23 rfl W.heap.size 34 i0 (.agg #[.string ⟨#[]⟩,.string ⟨#[]⟩,.int .i64 0,.int .i64 0,.int .i64 0,.slice none 0 0]) 6 80 Tryz.underlying23 hi hz0 hz1 hz2 rfl (by decide) vm pm.length (Qk pm) (by simp [Act.eval]) (((R1.out.ms.alloc _).drew).alloc _) ⟨w1.heap.size+1,0,none⟩ 1 1 [.string nm,.string ds,.int .i64 f,.int .i64 0,.int .i64 0,.slice none 0 0] (by simp [Act.eval]) rfl (Zax _ _ (by simp) _ _ _ _ _ _ _) ?_ (by decide) ?_ ?_ ?_ _ rfl ?_;(intro u hu;simp at hu;rcases hu with rfl|rfl|rfl|rfl|rfl <;> rfl);(unfold maxLen;omega);omega;(simp;omega);intro g2 cap2 w2 hown' hgrow _ _;obtain ⟨q1,qm,q2,q3⟩:=ms_rel (m:=⟨nm,ds,f,0,0,[]⟩) B1.out HH.out R1.out rfl hgrow hown';have Q1:Hid _:=q1;have Q2:Hid _:=q2;have Q3:Hid _:=q3;clear q2 q3 hown' hgrow z6;have z6:=cell_of_row w2 b 6 _ _ _ q1;have y6:=frozen_of_row w2 b 6 _ _ q1;have z0:=cell_of_row w2 b 0 _ _ _ q1;have y0:=frozen_of_row w2 b 0 _ _ q1;have x0:=cell_of_row w2 w1.heap.size 0 _ _ _ qm;have x1:=cell_of_row w2 w1.heap.size 1 _ _ _ qm;have x2:=cell_of_row w2 w1.heap.size 2 _ _ _ qm;have x3:=cell_of_row w2 w1.heap.size 3 _ _ _ qm;have x4:=cell_of_row w2 w1.heap.size 4 _ _ _ qm;have x5:=cell_of_row w2 w1.heap.size 5 _ _ _ qm;simp only [List.getElem?_toArray,List.getElem?_cons_zero,List.getElem?_cons_succ] at z6 z0 x0 x1 x2 x3 x4 x5;clear q1 qm HH R1 B1))
 all_goals
  go_wp2;go_ret
  obtain ⟨h1,r1⟩:=Qm Q1.out Q2.out 6 (.slice (some ⟨g2,0,none⟩) (pm.length+1) cap2);obtain ⟨h2,r2⟩:=Qm h1 r1 0 (.int .i64 5);refine Q5 ?_ HST.out.symm
  cases hq:((fstW s.data.toList == Zq)&&mlB s.data.toList) with
  | false =>
    have:=HER.out;rw [hq] at this;exact Qu this (Za (Za Q3.out hNb _ _) hNb _ _)
  | true =>
    have:=HER.out;rw [hq] at this;simp only [if_true] at this;obtain ⟨rfl,rfl,rfl,rfl⟩:=this;exact Xn ⟨vi,_,_,_,hNb,h2,r2⟩ (Za (Za Q3.out hNb _ _) hNb _ _)
theorem Zc0 (W w:World) (b st:Nat) (c:Cls) (s:ByteArray) (hs:s.size≤40000) (hG:GP W) (hb:Bw W w) (hr:Rdr w W.heap.size b st c) (hk:c.ms.length≤50000) :
 Calls Tryz.prog 127 #[.pointer (some ⟨b,0,none⟩),.string s] w fun e w'=>Took W b (Jr c s.data.toList) e w':=by
 cases he:(s.data.toList == wEnd) with
 | false=>exact Zna W w b st c s hs hG hb hr hk he
 | true =>
   have e:s=⟨#[101,110,100]⟩:=Zf (eq_of_beq he);have hst:Jr c s.data.toList=some (8,c):=by rw [Jr,he];rfl
   rw [hst,e];exact Zig W w b st c hb hr
theorem take_4 (W w:World) (b:Nat) (c:Cls) (s:ByteArray) (hs:s.size≤40000) (hG:GP W) (hb:Bw W w) (hr:Rdr w W.heap.size b 4 c) (hk:c.ms.length≤50000) :
 Calls Tryz.prog 87 #[.pointer (some ⟨b,0,none⟩),.string s] w fun e w'=>Took W b (Zt 4 c s.data.toList) e w':=by
 have H1:Hid (Calls Tryz.prog 127 _ w _):=Zc0 W w b 4 c s hs hG hb hr hk;have hst:Zt 4 c s.data.toList=Jr c s.data.toList:=rfl;rw [hst];obtain ⟨vi,vm,pm,B,hNb,hh,hR⟩:=hr;have c0:=cell_of_row w b 0 _ _ _ hh;simp only [List.getElem?_toArray,List.getElem?_cons_zero] at c0;clear hR hG hs hb hh hk hst;go_enter Tryz.func87,Tryz.ntmps87;go_wp2_with (go_at_call 127;refine H1.out.mono ?_;rintro e w2 ⟨⟨er,rfl,h1⟩,h2⟩;have HE:Hid (Took W b _ (.returned er) w2):=⟨⟨er,rfl,h1⟩,h2⟩;clear h1 h2 H1)
 go_ret
 exact HE.out
theorem take_8 (W w:World) (b:Nat) (c:Cls) (s:ByteArray) (hG:GP W) (hb:Bw W w) (hr:Rdr w W.heap.size b 8 c) :
 Calls Tryz.prog 87 #[.pointer (some ⟨b,0,none⟩),.string s] w fun e w'=>Took W b (Zt 8 c s.data.toList) e w':=by
 have hst:Zt 8 c s.data.toList=none:=rfl;rw [hst];obtain ⟨h3,tp,a,hc⟩:=(hG.keep hb).2.2.2.1;obtain ⟨vi,vm,pm,B,hNb,hh,hR⟩:=hr;have c0:=cell_of_row w b 0 _ _ _ hh;simp only [List.getElem?_toArray,List.getElem?_cons_zero] at c0;have HB:Hid _:=hb;clear hR hG hb hh hst;go_enter Tryz.func87,Tryz.ntmps87;go_wp2;go_ret
 exact Qu ⟨tp,a,rfl⟩ HB.out
theorem Zb3 (w:World) (b st g cap:Nat) (k:Nat) (nm su:ByteArray) (vi:Value) (fl ld:Int) (hk:k≤100000) (hh:w.heap[b]?=some (.cells #[.int .i64 (st:Int),.string nm,.string su,vi,.int .i64 fl,.int .i64 ld,.slice (some ⟨g,0,none⟩) (k+1) cap] 123 (0,0))) :
 Calls Tryz.prog 128 #[.pointer (some ⟨b,0,none⟩)] w fun e w'=>e=.returned (.pointer (some ⟨g,k * 6,none⟩))∧w'=w.drew:=by
 have c6:=cell_of_row w b 6 _ _ _ hh;simp only [List.getElem?_toArray,List.getElem?_cons_zero,List.getElem?_cons_succ] at c6;clear hh;go_enter Tryz.func128,Tryz.ntmps128;have k1:((k+1:Nat):Int) - 1=k:=by omega
 go_wp2
 go_region
 go_wp2;go_ret
 exact ⟨rfl,rfl⟩
theorem Zad {a:List Mth} {m:Mth} {ms:List Mth} (h:ms=a++[m]) (f:Mth→Mth):Ym (fun _=>f m) ms=Ym f ms:=by rw [h,Zk5,Zk5]
theorem RowC.ends {w:World} {N:Nat} {vi vm:Value} {c:Cls} {pm:List (Mth×Value)} {B:Nat} (h:RowC w N vi vm c pm B) (hne:c.ms≠[]):∃ l m v g cap cur,pm=l++[(m,v)]∧vm=.slice (some ⟨g,0,none⟩) (l.length+1) cap∧N≤g∧w.heap[g]?=some (.cells cur 34 (0,0))∧c.ms=l.map Prod.fst++[m]∧∀ j,j<6→w.cell? ⟨g,l.length * 6+j,none⟩=(mthC (m,v))[j]?:=by
 have hpm:pm≠[]:=fun e=>hne (by rw [← h.eq,e];rfl);rcases List.eq_nil_or_concat pm with e|⟨l,⟨m,v⟩,e⟩
 ·exact absurd e hpm
 ·rw [List.concat_eq_append] at e;obtain ⟨g,cap,cur,e1,e2,e3,_,_,_,e4⟩:=h.at hpm;refine ⟨l,m,v,g,cap,cur,e,by rw [e1,e];simp,e2,e3,by rw [← h.eq,e];simp,fun j hj=>e4 l.length (m,v) (by rw [e];simp) j hj⟩
theorem take_5 (W w:World) (b:Nat) (c:Cls) (s:ByteArray) (hs:s.size≤40000) (hG:GP W) (hb:Bw W w) (hr:Rdr w W.heap.size b 5 c) (hk:c.ms.length≤50000) (hne:c.ms≠[]) :
 Calls Tryz.prog 87 #[.pointer (some ⟨b,0,none⟩),.string s] w fun e w'=>Took W b (Zt 5 c s.data.toList) e w':=by
 obtain ⟨vi,vm,pm,B,hNb,hh,hR⟩:=hr;have hlt:b<w.heap.size:=(Array.getElem?_eq_some_iff.1 hh).1;obtain ⟨l,m,v,g,cap,cur,rfl,rfl,hgN,hgh,hms,hxx⟩:=hR.ends hne;have hglt:g<w.heap.size:=(Array.getElem?_eq_some_iff.1 hgh).1;have hll:l.length≤100000:=by have:=hR.len;simp at this;omega
 have hx:=hxx 3 (by omega);simp only [mthC,List.getElem?_cons_zero,List.getElem?_cons_succ] at hx;have hgb:g≠b:=fun e=>by rw [e,hh] at hgh;simp at hgh
 have HM:Hid (Calls Tryz.prog 128 _ w _):=Zb3 w b 5 g cap l.length c.nm c.su vi c.fl c.ld hll hh;have HC:Hid (∀ w',Bw w w'→Calls Tryz.prog 126 #[.string s,.string ⟨#[108,111,99,97,108,115]⟩] w' fun e w''=>(∃ n er,e=.returned (.tuple #[.int .i64 n,er])∧if rnB s.data.toList Zp&&num9 (rnS s.data.toList Zp) then er=.nilIface∧n=(numR (rnS s.data.toList Zp)).1 else ErrV er)∧Below w'.heap.size w' w''):=fun w' h=>Jz s ⟨#[108,111,99,97,108,115]⟩ hs (by decide) w' ((hG.keep hb).keep h);have HR:Hid _:=hR;have HB:Hid _:=hb;have HST:Hid (Zt 5 c s.data.toList=if rnB s.data.toList Zp&&num9 (rnS s.data.toList Zp) then some (6,{ c with ms:=Ym (fun m=>{ m with lo:=(numR (rnS s.data.toList Zp)).1 }) c.ms }) else none):=rfl;have HMS:Hid _:=hms;clear hR hG hs hb hne hms hxx;obtain ⟨RR,hRR⟩:∃ r,Zt 5 c s.data.toList=r:=⟨_,rfl⟩;rw [hRR];rw [hRR] at HST;clear hRR;have c0:=cell_of_row w b 0 _ _ _ hh;simp only [List.getElem?_toArray,List.getElem?_cons_zero] at c0;go_enter Tryz.func87,Tryz.ntmps87;go_wp2_with (first
  | (go_at_call 128;refine HM.out.mono ?_;rintro e w9 ⟨rfl,hw9⟩;rw [hw9];clear hw9 HM w9)
  | (go_at_call 126;refine (HC.out _ ((Below.refl _ _).drew)).mono ?_;rintro e w1 ⟨⟨n,er,rfl,her⟩,hb1⟩;replace hb1:Bw w w1:=⟨hb1.os,hb1.tape,hb1.output,hb1.size,hb1.block⟩;have HER:Hid (if (rnB s.data.toList Zp&&num9 (rnS s.data.toList Zp))=true then er=.nilIface∧n=(numR (rnS s.data.toList Zp)).1 else ErrV er):=her;clear her;have b1:=hb1.block b hlt;rw [hh] at b1;have g1:=hb1.block g hglt;rw [hgh] at g1;have z0:=cell_of_row w1 b 0 _ _ _ b1;have y0:=frozen_of_row w1 b 0 _ _ b1;have zc:=(hb1.cell (p:=⟨g,l.length * 6+3,none⟩) hglt).trans hx;have yc:=frozen_of_row w1 g (l.length * 6+3) _ _ g1;simp only [List.getElem?_toArray,List.getElem?_cons_zero] at z0;have HH:Hid _:=b1;have HGH:Hid _:=g1;have B1:Hid (Bw w w1):=hb1;clear b1 g1 hb1 c0 hx HC))
 all_goals (try go_region)
 all_goals (try go_wp2)
 all_goals go_ret
 refine Q5 ?_ HST.out.symm
 cases hq:(rnB s.data.toList Zp&&num9 (rnS s.data.toList Zp)) with
 | false =>
   have:=HER.out;rw [hq] at this;exact Qu this (Za (Za (Below.step HB.out B1.out) hgN _ _) hNb _ _)
 | true =>
   have:=HER.out;rw [hq] at this;simp only [if_true] at this;obtain ⟨rfl,rfl⟩:=this;refine Xn ?_ (Za (Za (Below.step HB.out B1.out) hgN _ _) hNb _ _);have r0:=(HR.out.below B1.out).num (m':={ m with lo:=(numR (rnS s.data.toList Zp)).1 }) 3 (.int .i64 (numR (rnS s.data.toList Zp)).1) (by omega) rfl rfl;have h0:(w1.setCell ⟨g,l.length * 6+3,none⟩ (.int .i64 (numR (rnS s.data.toList Zp)).1)).heap[b]?=_:=(heap_setCell_other _ _ _ _ (fun e=>hgb e.symm)).trans HH.out;obtain ⟨h2,r2⟩:=Qm h0 r0 0 (.int .i64 6);rw [Zad HMS.out (fun m=>{ m with lo:=(numR (rnS s.data.toList Zp)).1 })] at r2;exact ⟨vi,_,_,B,hNb,h2,r2⟩
theorem take_6 (W w:World) (b:Nat) (c:Cls) (s:ByteArray) (hs:s.size≤40000) (hG:GP W) (hb:Bw W w) (hr:Rdr w W.heap.size b 6 c) (hk:c.ms.length≤50000) (hne:c.ms≠[]) :
 Calls Tryz.prog 87 #[.pointer (some ⟨b,0,none⟩),.string s] w fun e w'=>Took W b (Zt 6 c s.data.toList) e w':=by
 obtain ⟨vi,vm,pm,B,hNb,hh,hR⟩:=hr;have hlt:b<w.heap.size:=(Array.getElem?_eq_some_iff.1 hh).1;obtain ⟨l,m,v,g,cap,cur,rfl,rfl,hgN,hgh,hms,hxx⟩:=hR.ends hne;have hglt:g<w.heap.size:=(Array.getElem?_eq_some_iff.1 hgh).1;have hll:l.length≤100000:=by have:=hR.len;simp at this;omega
 have hx:=hxx 4 (by omega);simp only [mthC,List.getElem?_cons_zero,List.getElem?_cons_succ] at hx;have hgb:g≠b:=fun e=>by rw [e,hh] at hgh;simp at hgh
 have HM:Hid (Calls Tryz.prog 128 _ w _):=Zb3 w b 6 g cap l.length c.nm c.su vi c.fl c.ld hll hh;have HC:Hid (∀ w',Bw w w'→Calls Tryz.prog 126 #[.string s,.string ⟨#[115,116,97,99,107]⟩] w' fun e w''=>(∃ n er,e=.returned (.tuple #[.int .i64 n,er])∧if rnB s.data.toList Z3&&num9 (rnS s.data.toList Z3) then er=.nilIface∧n=(numR (rnS s.data.toList Z3)).1 else ErrV er)∧Below w'.heap.size w' w''):=fun w' h=>Jz s ⟨#[115,116,97,99,107]⟩ hs (by decide) w' ((hG.keep hb).keep h);have HR:Hid _:=hR;have HB:Hid _:=hb;have HST:Hid (Zt 6 c s.data.toList=if rnB s.data.toList Z3&&num9 (rnS s.data.toList Z3) then some (7,{ c with ms:=Ym (fun m=>{ m with st:=(numR (rnS s.data.toList Z3)).1 }) c.ms }) else none):=rfl;have HMS:Hid _:=hms;clear hR hG hs hb hne hms hxx;obtain ⟨RR,hRR⟩:∃ r,Zt 6 c s.data.toList=r:=⟨_,rfl⟩;rw [hRR];rw [hRR] at HST;clear hRR;have c0:=cell_of_row w b 0 _ _ _ hh;simp only [List.getElem?_toArray,List.getElem?_cons_zero] at c0;go_enter Tryz.func87,Tryz.ntmps87;go_wp2_with (first
  | (go_at_call 128;refine HM.out.mono ?_;rintro e w9 ⟨rfl,hw9⟩;rw [hw9];clear hw9 HM w9)
  | (go_at_call 126;refine (HC.out _ ((Below.refl _ _).drew)).mono ?_;rintro e w1 ⟨⟨n,er,rfl,her⟩,hb1⟩;replace hb1:Bw w w1:=⟨hb1.os,hb1.tape,hb1.output,hb1.size,hb1.block⟩;have HER:Hid (if (rnB s.data.toList Z3&&num9 (rnS s.data.toList Z3))=true then er=.nilIface∧n=(numR (rnS s.data.toList Z3)).1 else ErrV er):=her;clear her;have b1:=hb1.block b hlt;rw [hh] at b1;have g1:=hb1.block g hglt;rw [hgh] at g1;have z0:=cell_of_row w1 b 0 _ _ _ b1;have y0:=frozen_of_row w1 b 0 _ _ b1;have zc:=(hb1.cell (p:=⟨g,l.length * 6+4,none⟩) hglt).trans hx;have yc:=frozen_of_row w1 g (l.length * 6+4) _ _ g1;simp only [List.getElem?_toArray,List.getElem?_cons_zero] at z0;have HH:Hid _:=b1;have HGH:Hid _:=g1;have B1:Hid (Bw w w1):=hb1;clear b1 g1 hb1 c0 hx HC))
 all_goals (try go_region)
 all_goals (try go_wp2)
 all_goals go_ret
 refine Q5 ?_ HST.out.symm
 cases hq:(rnB s.data.toList Z3&&num9 (rnS s.data.toList Z3)) with
 | false =>
   have:=HER.out;rw [hq] at this;exact Qu this (Za (Za (Below.step HB.out B1.out) hgN _ _) hNb _ _)
 | true =>
   have:=HER.out;rw [hq] at this;simp only [if_true] at this;obtain ⟨rfl,rfl⟩:=this;refine Xn ?_ (Za (Za (Below.step HB.out B1.out) hgN _ _) hNb _ _);have r0:=(HR.out.below B1.out).num (m':={ m with st:=(numR (rnS s.data.toList Z3)).1 }) 4 (.int .i64 (numR (rnS s.data.toList Z3)).1) (by omega) rfl rfl;have h0:(w1.setCell ⟨g,l.length * 6+4,none⟩ (.int .i64 (numR (rnS s.data.toList Z3)).1)).heap[b]?=_:=(heap_setCell_other _ _ _ _ (fun e=>hgb e.symm)).trans HH.out;obtain ⟨h2,r2⟩:=Qm h0 r0 0 (.int .i64 7);rw [Zad HMS.out (fun m=>{ m with st:=(numR (rnS s.data.toList Z3)).1 })] at r2;exact ⟨vi,_,_,B,hNb,h2,r2⟩
theorem code_rel {W w1 U w2:World} {b g cap:Nat} {cs cur:Array Value} {vi v v':Value} {c:Cls} {l:List (Mth×Value)} {m:Mth} {B:Nat} {i:Ins} (hb:Bw W w1) (hh:w1.heap[b]?=some (.cells cs 123 (0,0))) (hgh:w1.heap[g]?=some (.cells cur 34 (0,0))) (hr:RowC w1 W.heap.size vi (.slice (some ⟨g,0,none⟩) (l.length+1) cap) c (l++[(m,v)]) B)
 (hst:Bw w1 U) (hg:U.grownBy w2 v.ownBlock) (ho:w2.ownsRow B 73 7 v' (m.code.length+1) (Xy m.code++insC i)) :
 w2.heap[b]?=some (.cells cs 123 (0,0))∧w2.heap[g]?=some (.cells cur 34 (0,0))∧RowC (w2.setCell ⟨g,l.length * 6+5,none⟩ v') W.heap.size vi (.slice (some ⟨g,0,none⟩) (l.length+1) cap) { c with ms:=Ym (fun m=>{ m with code:=m.code++[i] }) c.ms } (l++[({ m with code:=m.code++[i] },v')]) B∧Bw W w2:=by
 have hlt:b<w1.heap.size:=(Array.getElem?_eq_some_iff.1 hh).1;have hglt:g<w1.heap.size:=(Array.getElem?_eq_some_iff.1 hgh).1;have ha:U.heap[b]?=some (.cells cs 123 (0,0)):=(hst.block b hlt).trans hh;have hga:U.heap[g]?=some (.cells cur 34 (0,0)):=(hst.block g hglt).trans hgh;have hra:RowC U W.heap.size vi (.slice (some ⟨g,0,none⟩) (l.length+1) cap) c (l++[(m,v)]) B:=hr.below hst;have hl:=hra.last (m,v) (by simp);have hs:=hst.size;have hbs:=hb.size;refine ⟨?_,?_,hra.code i hg ho,?_⟩
 ·rw [hg.block b (by omega) (Qe hl ha (by decide))];exact ha
 ·rw [hg.block g (by omega) (Qe hl hga (by decide))];exact hga
 ·exact (hb.trans (hst.mono hb.size)).grown hg (by omega) (fun k hk=>Nat.le_trans hr.lo (hl.lt k hk).1)
theorem Zbq (w:World) (n:Nat) (hn:w.heap.size=n) (t:TypeId) (a0 a1 a2 a3 a4 a5 a6:Value):∀ j u,[a0,a1,a2,a3,a4,a5,a6][j]?=some u→(w.alloc (.cells #[a0,a1,a2,a3,a4,a5,a6] t)).cell? ((⟨n,0,none⟩:Addr).add j)=some u:=by
 intro j u hj;rw [add0,← hn,cell_of_row _ _ _ _ _ _ (heap_alloc_new w _)]
 simpa using hj
theorem Zii (W w:World) (b st:Nat) (c:Cls) (s:ByteArray) (hs:s.size≤40000) (hG:GP W) (hb:Bw W w) (hr:Rdr w W.heap.size b st c) (hk:c.ms.length≤50000) (hd:docP s.data.toList=none) :
 Calls Tryz.prog 129 #[.pointer (some ⟨b,0,none⟩),.string s] w fun e w'=>Took W b (Jr c s.data.toList) e w':=by
 have hG':=hG.keep hb;have HP:Hid (Calls Tryz.prog 161 _ w _):=Zes s (by omega) w hG'.1.1 hG'.2.1 hG'.2.2.1;rw [Zjy,hd] at HP;have HT:Hid _:=fun (w':World) (h:Bw w w')=>Zc0 W w' b st c s hs hG (Below.step hb h) (hr.keep h) hk;clear hr hb hG hs hk hd hG';simp only [outI,insV,insC,Zic] at HP;go_enter Tryz.func129,Tryz.ntmps129;go_wp2_with (first
  | (go_at_call 161;refine HP.out.mono ?_;rintro e w1 ⟨rfl,hb1⟩;clear HP)
  | (go_at_call 127;refine (HT.out _ (hb1.alloc hb1.size _)).mono ?_;rintro e w2 ⟨⟨er,rfl,h1⟩,h2⟩;have HE:Hid (Took W b _ (.returned er) w2):=⟨⟨er,rfl,h1⟩,h2⟩;clear h1 h2 HT))
 go_ret
 exact HE.out
theorem Zgs (W w:World) (b:Nat) (c:Cls) (s:ByteArray) (hs:s.size≤40000) (hG:GP W) (hb:Bw W w) (hr:Rdr w W.heap.size b 7 c) (hk:c.ms.length≤50000) (hne:c.ms≠[]) (hkc:∀ m∈c.ms,m.code.length≤50000) (i:Ins) (hd:docP s.data.toList=some i) :
 Calls Tryz.prog 129 #[.pointer (some ⟨b,0,none⟩),.string s] w fun e w'=>Took W b (some (7,{ c with ms:=Ym (fun m=>{ m with code:=m.code++[i] }) c.ms })) e w':=by
 obtain ⟨i0,hi,hz0,hz1,hz2⟩:=info_parts Tryz.info73;obtain ⟨vi,vm,pm,B,hNb,hh,hR⟩:=hr;have hlt:b<w.heap.size:=(Array.getElem?_eq_some_iff.1 hh).1;obtain ⟨l,m,v,g,cap,cur,rfl,rfl,hgN,hgh,hms,hxx⟩:=hR.ends hne;have hglt:g<w.heap.size:=(Array.getElem?_eq_some_iff.1 hgh).1;have hll:l.length≤100000:=by have:=hR.len;simp at this;omega
 have hcl:m.code.length≤50000:=hkc m (by rw [hms];simp);have hx:=hxx 5 (by omega);simp only [mthC,List.getElem?_cons_zero,List.getElem?_cons_succ] at hx;have hgb:g≠b:=fun e=>by rw [e,hh] at hgh;simp at hgh
 have hG':=hG.keep hb;have HP:Hid (Calls Tryz.prog 161 _ w _):=Zes s (by omega) w hG'.1.1 hG'.2.1 hG'.2.2.1;rw [Zjy,hd] at HP;have HM:Hid _:=fun (w':World) (h:Bw w w')=>Zb3 w' b 7 g cap l.length c.nm c.su vi c.fl c.ld hll ((h.block b hlt).trans hh);have HR:Hid _:=hR;have HB:Hid _:=hb;have hBs:=hR.hi;have hvl:w.ownsRow B 73 7 v m.code.length (Xy m.code):=hR.last (m,v) (by simp);have hva:∃ va vcap,v=.slice va m.code.length vcap:=by
  rcases hvl.2 with ⟨e,e2⟩|⟨g',cap',cur',e,_⟩
  ·exact ⟨none,0,by rw [e,e2]⟩
  ·exact ⟨_,_,e⟩
 obtain ⟨va,vcap,rfl⟩:=hva;simp only [outI,insV,insC] at HP;obtain ⟨io,iN,it,ib,ic,im,id⟩:=i;simp only at HP;clear hR hG hs hb hne hms hxx hd hG' hkc hvl;have c0:=cell_of_row w b 0 _ _ _ hh;simp only [List.getElem?_toArray,List.getElem?_cons_zero] at c0;go_enter Tryz.func129,Tryz.ntmps129;go_wp2_with (first
  | (go_at_call 161;refine HP.out.mono ?_;rintro e w1 ⟨rfl,hb1⟩;have b1:=hb1.block b hlt;rw [hh] at b1;have g1:=hb1.block g hglt;rw [hgh] at g1;have zc:=(hb1.cell (p:=⟨g,l.length * 6+5,none⟩) hglt).trans hx;have HH:Hid _:=b1;have HGH:Hid _:=g1;have B1:Hid (Bw w w1):=hb1;have hs1:=hb1.size;clear b1 g1 hb1 c0 hx HP)
  | (go_at_call 128;refine (HM.out _ (B1.out.alloc B1.out.size _)).mono ?_;rintro e w9 ⟨rfl,hw9⟩;rw [hw9];clear hw9 HM w9))
 have hglt1:g<w1.heap.size:=Nat.lt_of_lt_of_le hglt hs1
 go_region_law
  (first
   | (refine step_append_lies _ rfl (.tmp 24) (.tmp 26) 32 rfl B 73 i0 (.agg #[.int .i64 0,.int .i64 0,.string ⟨#[]⟩,.bool false,.string ⟨#[]⟩,.string ⟨#[]⟩,.string ⟨#[]⟩]) 7 88 Tryz.underlying32 hi hz0 hz1 hz2 rfl (by decide) (.slice va m.code.length vcap) m.code.length (Xy m.code) (by simp [Act.eval]) (((((HR.out.below B1.out).last (m,_) (by simp)).alloc _).drew.drew).alloc _) ⟨w1.heap.size+1,0,none⟩ 1 1 [.int .i64 io,.int .i64 iN,.string it,.bool ib,.string ic,.string im,.string id] (by simp [Act.eval]) rfl (Zbq _ _ (by simp) _ _ _ _ _ _ _ _) ?_ (by decide) ?_ ?_ ?_ _ rfl ?_;(intro u hu;simp at hu;rcases hu with rfl|rfl|rfl|rfl|rfl|rfl|rfl <;> rfl);(unfold maxLen;omega);omega;(simp;omega);intro g2 cap2 w2 hown' hgrow _ _;obtain ⟨q1,q2,q3,q4⟩:=code_rel (i:=⟨io,iN,it,ib,ic,im,id⟩) (Below.step HB.out B1.out) HH.out HGH.out (HR.out.below B1.out) ((((Below.refl _ _).alloc (Nat.le_refl _) _).drew.drew).alloc (by simp) _) hgrow hown';have zc':=cell_of_row w2 g (l.length * 6+5) _ _ _ q2;have zc0:=cell_of_row w1 g (l.length * 6+5) _ _ _ HGH.out;rw [← zc0,zc] at zc';have yc':=frozen_of_row w2 g (l.length * 6+5) _ _ q2;have Q1:Hid _:=q1;have Q3:Hid _:=q3;have Q4:Hid _:=q4;clear q1 q2 q3 q4 hown' hgrow HH HGH zc zc0 B1))
 all_goals
  go_wp2;go_ret
  refine Xn ⟨vi,_,_,B,hNb,?_,Q3.out⟩ (Za Q4.out hgN _ _);exact (heap_setCell_other _ _ _ _ (fun e=>hgb e.symm)).trans Q1.out
theorem take_7 (W w:World) (b:Nat) (c:Cls) (s:ByteArray) (hs:s.size≤40000) (hG:GP W) (hb:Bw W w) (hr:Rdr w W.heap.size b 7 c) (hk:c.ms.length≤50000) (hne:c.ms≠[]) (hkc:∀ m∈c.ms,m.code.length≤50000) :
 Calls Tryz.prog 87 #[.pointer (some ⟨b,0,none⟩),.string s] w fun e w'=>Took W b (Zt 7 c s.data.toList) e w':=by
 have H1:Hid (Calls Tryz.prog 129 #[.pointer (some ⟨b,0,none⟩),.string s] w fun e w'=>Took W b (Zt 7 c s.data.toList) e w'):=by
  have hst:Zt 7 c s.data.toList=(match docP s.data.toList with
   | some i=>some (7,{ c with ms:=Ym (fun m=>{ m with code:=m.code++[i] }) c.ms })
   | none=>Jr c s.data.toList):=rfl
  rw [hst]
  cases hd:docP s.data.toList with
  | none=>exact Zii W w b 7 c s hs hG hb hr hk hd
  | some i=>exact Zgs W w b c s hs hG hb hr hk hne hkc i hd
 obtain ⟨vi,vm,pm,B,hNb,hh,hR⟩:=hr;have c0:=cell_of_row w b 0 _ _ _ hh;simp only [List.getElem?_toArray,List.getElem?_cons_zero] at c0;clear hR hG hs hb hh hk hne hkc;generalize Zt 7 c s.data.toList=r at *;go_enter Tryz.func87,Tryz.ntmps87;go_wp2_with (go_at_call 129;refine H1.out.mono ?_;rintro e w2 ⟨⟨er,rfl,h1⟩,h2⟩;have HE:Hid (Took W b _ (.returned er) w2):=⟨⟨er,rfl,h1⟩,h2⟩;clear h1 h2 H1)
 go_ret
 exact HE.out
theorem take_any (W w:World) (b st:Nat) (c:Cls) (s:ByteArray) (hs:s.size≤40000) (hG:GP W) (hb:Bw W w) (hr:Rdr w W.heap.size b st c) (hst:st≤8) {K:Nat} (hf:Fit st c K) (hK:K≤50000) :
 Calls Tryz.prog 87 #[.pointer (some ⟨b,0,none⟩),.string s] w fun e w'=>Took W b (Zt st c s.data.toList) e w':=by
 have k1:=hf.ifs;have k2:=hf.ms;have k3:∀ m∈c.ms,m.code.length≤50000:=fun m hm=>Nat.le_trans (hf.code m hm) hK
 match st,hst with
 | 0,_=>exact take_0 W w b c s hs hG hb hr
 | 1,_=>exact take_1 W w b c s hs hG hb hr
 | 2,_=>exact take_2 W w b c s hs hG hb hr (by omega)
 | 3,_=>exact take_3 W w b c s hs hG hb hr
 | 4,_=>exact take_4 W w b c s hs hG hb hr (by omega)
 | 5,_=>exact take_5 W w b c s hs hG hb hr (by omega) (hf.st (by omega) (by omega))
 | 6,_=>exact take_6 W w b c s hs hG hb hr (by omega) (hf.st (by omega) (by omega))
 | 7,_=>exact take_7 W w b c s hs hG hb hr (by omega) (hf.st (by omega) (by omega)) k3
 | 8,_=>exact take_8 W w b c s hG hb hr
theorem X0 {st st':Nat} {c c':Cls} {l:List UInt8} (h:Zt st c l=some (st',c')):st'≤8:=by
 have hm:∀ {c c':Cls} {st':Nat},Jr c l=some (st',c')→st'≤8:=fun {c c' st'} h=>by
  unfold Jr at h
  split at h
  ·cases h;omega
  ·split at h
   ·cases h;omega
   ·cases h
 unfold Zt at h
 split at h
 ·split at h <;> cases h;omega
 split at h
 ·split at h <;> cases h;omega
 split at h
 ·split at h
  ·cases h;omega
  ·split at h <;> cases h;omega
 split at h
 ·split at h <;> cases h;omega
 split at h
 ·exact hm h
 split at h
 ·split at h <;> cases h;omega
 split at h
 ·split at h <;> cases h;omega
 split at h
 ·split at h
  ·cases h;omega
  ·exact hm h
 ·cases h
def nilS:Value:=.slice none 0 0
theorem row_zero (w:World) (N:Nat) (h:N≤w.heap.size):RowC w N nilS nilS Y2 [] w.heap.size:=⟨h,Nat.le_refl _,World.ownsRow_nil _ _ _ _,rfl,World.ownsRow_nil _ _ _ _,fun p hp=>(by cases hp),fun p hp=>(by cases hp)⟩
theorem Zfs {w:World} {N N' e s:Nat} {v:Value} {n:Nat} {xs:List Value} (h:w.ownsRow N e s v n xs) (hn:N'≤N):w.ownsRow N' e s v n xs:=by
 refine ⟨h.1,?_⟩;rcases h.2 with h2|⟨g,cap,cur,e,hb,r⟩
 ·exact .inl h2
 ·exact .inr ⟨g,cap,cur,e,Nat.le_trans hn hb,r⟩
theorem RowC.mono {w:World} {N N':Nat} {vi vm:Value} {c:Cls} {pm:List (Mth×Value)} {B:Nat} (h:RowC w N vi vm c pm B) (hn:N'≤N):RowC w N' vi vm c pm B :=
 ⟨Nat.le_trans hn h.lo,h.hi,Zfs h.ifs hn,h.eq,Zfs h.ms hn,fun p hp=>⟨Zfs (h.old p hp).1 hn,(h.old p hp).2⟩,h.last⟩
def Lines (W:World) (r:Option Cls×Nat) (e:Ending) (w':World):Prop:=(match r with
 | (some c,_)=>∃ vi vm pm B,e=.returned (.tuple #[clsV c vi vm,.nilIface])∧RowC w' W.heap.size vi vm c pm B∧Fit 8 c 50000
 | (none,n)=>∃ tp a,e=.returned (.tuple #[clsV Y2 nilS nilS,.iface 79 (.agg #[.int .i64 (n:Int),.iface tp (.pointer a)])]))∧Bw W w'
theorem Zb5 {W:World} {r r':Option Cls×Nat} {e:Ending} {w':World} (h:Lines W r e w') (he:r=r'):Lines W r' e w':=he ▸ h
def set6 (w:World) (b:Nat) (a0 a1 a2 a3 a4 a5:Value):World:=(((((w.setCell ⟨b,0,none⟩ a0).setCell ⟨b,1,none⟩ a1).setCell ⟨b,2,none⟩ a2).setCell ⟨b,3,none⟩ a3).setCell ⟨b,4,none⟩ a4).setCell ⟨b,5,none⟩ a5
theorem Za7 {w:World} {N b:Nat} {cs:Array Value} {vi vm:Value} {c:Cls} {pm:List (Mth×Value)} {B:Nat} (h:w.heap[b]?=some (.cells cs 25 (0,0))) (hr:RowC w N vi vm c pm B) (a0 a1 a2 a3 a4 a5:Value):RowC (set6 w b a0 a1 a2 a3 a4 a5) N vi vm c pm B:=by
 have st:∀ (w:World) (cs:Array Value) (k:Nat) (v:Value),w.heap[b]?=some (.cells cs 25 (0,0))→RowC w N vi vm c pm B→(w.setCell ⟨b,k,none⟩ v).heap[b]?=some (.cells (cs.setIfInBounds k v) 25 (0,0))∧RowC (w.setCell ⟨b,k,none⟩ v) N vi vm c pm B:=fun w cs k v h hr=>⟨Go.Joins.block_setCell h v,hr.other h (by decide) (by decide) (by decide) (Jc w b k v)⟩;obtain ⟨h1,r1⟩:=st _ _ 0 a0 h hr;obtain ⟨h2,r2⟩:=st _ _ 1 a1 h1 r1;obtain ⟨h3,r3⟩:=st _ _ 2 a2 h2 r2;obtain ⟨h4,r4⟩:=st _ _ 3 a3 h3 r3;obtain ⟨h5,r5⟩:=st _ _ 4 a4 h4 r4;exact (st _ _ 5 a5 h5 r5).2
theorem Zfy (s:ByteArray) (hs:s.size≤40000) (W:World) (hG:GP W) :
 Calls Tryz.prog 43 #[.string s] W fun e w'=>Lines W (runL 0 Y2 (cutL 10 s.data.toList) 1) e w':=by
 obtain ⟨RR,hRR⟩:∃ r,runL 0 Y2 (cutL 10 s.data.toList) 1=r:=⟨_,rfl⟩;have HRR:Hid _:=hRR;rw [hRR];clear hRR;obtain ⟨Wc,hWc⟩:∃ x,x=W.alloc (.cells #[.string ⟨#[]⟩,.string ⟨#[]⟩,.slice none 0 0,.int .i64 0,.int .i64 0,.slice none 0 0] 25):=⟨_,rfl⟩;have HWc:Hid (Bw W Wc):=by rw [hWc];exact (Below.refl _ _).alloc (Nat.le_refl _) _
 have hWs:Wc.heap.size=W.heap.size+1:=by rw [hWc];simp
 have HRB:Hid (Wc.heap[W.heap.size]?=some (.cells #[.string ⟨#[]⟩,.string ⟨#[]⟩,.slice none 0 0,.int .i64 0,.int .i64 0,.slice none 0 0] 25 (0,0))):=by rw [hWc];exact heap_alloc_new W _
 have HG:Hid (GP Wc):=hG.keep HWc.out;have HWE:Hid (Wc=W.alloc (.cells #[.string ⟨#[]⟩,.string ⟨#[]⟩,.slice none 0 0,.int .i64 0,.int .i64 0,.slice none 0 0] 25)):=hWc;have RZ:Hid (Rdr (Wc.alloc (.cells #[.int .i64 0,.string ⟨#[]⟩,.string ⟨#[]⟩,.slice none 0 0,.int .i64 0,.int .i64 0,.slice none 0 0] 123)) Wc.heap.size (W.heap.size+1) 0 Y2):=⟨nilS,nilS,[],_,by omega,by rw [← hWs];exact heap_alloc_new Wc _,row_zero _ _ (by simp)⟩;clear hG hWc;go_enter Tryz.func43,Tryz.ntmps43;go_wp2;rw [← HWE.out];go_loopw [0,5] (fun tv nv wr=>∃ (T:ByteArray) (n st:Nat) (c:Cls),tv=.string T∧nv=.int .i64 n∧T.size+n≤s.size+1∧st≤8∧Hid (Rdr wr Wc.heap.size (W.heap.size+1) st c)∧Hid (Fit st c n)∧Hid (Bw Wc wr)∧Hid (runL st c (cutL 10 T.data.toList) n=RR)) (fun tv _ _=>match tv with | .string T=>T.size|_=>0)
 case atStart =>
  exact ⟨s,1,0,Y2,rfl,rfl,Nat.le_refl _,by omega,RZ,Fit.zero 1,(Below.refl _ _).alloc (Nat.le_refl _) _,HRR⟩
 case round =>
  obtain ⟨T,n,st,c,rfl,rfl,hTn,hst8,hr,hf,hb,hrun⟩:=hrel;clear HRR;have hr0:=hr.out;obtain ⟨vi,vm,pm,B,hNb,hh,hR⟩:=hr0;have hlt:W.heap.size+1<wr.heap.size:=(Array.getElem?_eq_some_iff.1 hh).1;have c0:=cell_of_row wr (W.heap.size+1) 0 _ _ _ hh;by_cases hend:st=8∧T.size=0
  ·obtain ⟨rfl,hT0⟩:=hend;obtain rfl:T=⟨#[]⟩:=Zf (List.length_eq_zero_iff.1 (by rw [Ql];exact hT0));have HE:Hid (RR=(some c,0)):=by rw [Hid,← hrun.out];rfl
   obtain ⟨ia,icap,rfl⟩:=Xc hR.ifs;obtain ⟨ma,mcap,rfl⟩:=Xc hR.ms;have c1:=cell_of_row wr (W.heap.size+1) 1 _ _ _ hh;have c2:=cell_of_row wr (W.heap.size+1) 2 _ _ _ hh;have c3:=cell_of_row wr (W.heap.size+1) 3 _ _ _ hh;have c4:=cell_of_row wr (W.heap.size+1) 4 _ _ _ hh;have c5:=cell_of_row wr (W.heap.size+1) 5 _ _ _ hh;have c6:=cell_of_row wr (W.heap.size+1) 6 _ _ _ hh;simp only [List.getElem?_toArray,List.getElem?_cons_zero,List.getElem?_cons_succ] at c0 c1 c2 c3 c4 c5 c6;have rk:=(hb.out.block W.heap.size (by omega)).trans HRB.out;have r0:=cell_of_row wr W.heap.size 0 _ _ _ rk;have s0:=frozen_of_row wr W.heap.size 0 _ _ rk;have r1:=cell_of_row wr W.heap.size 1 _ _ _ rk;have s1:=frozen_of_row wr W.heap.size 1 _ _ rk;have r2:=cell_of_row wr W.heap.size 2 _ _ _ rk;have s2:=frozen_of_row wr W.heap.size 2 _ _ rk;have r3:=cell_of_row wr W.heap.size 3 _ _ _ rk;have s3:=frozen_of_row wr W.heap.size 3 _ _ rk;have r4:=cell_of_row wr W.heap.size 4 _ _ _ rk;have s4:=frozen_of_row wr W.heap.size 4 _ _ rk;have r5:=cell_of_row wr W.heap.size 5 _ _ _ rk;have s5:=frozen_of_row wr W.heap.size 5 _ _ rk;simp only [List.getElem?_toArray,List.getElem?_cons_zero,List.getElem?_cons_succ] at r0 r1 r2 r3 r4 r5;clear rk;have HR:Hid _:=hR;have HF:Hid (Fit 8 c 50000):=⟨by have:=hf.out.ifs;omega,by have:=hf.out.ms;omega,fun m hm=>(by have:=hf.out.code m hm;omega),fun _ h=>absurd h (by omega),hf.out.w⟩;have HRK:Hid _:=(hb.out.block W.heap.size (by omega)).trans HRB.out;clear hrun hh hR hr hf hTn hst8 hT0;go_wp2;refine bodyPost_ret (v:=.tuple #[.agg #[.string c.nm,.string c.su,.slice ia c.ifs.length icap,.int .i64 c.fl,.int .i64 c.ld,.slice ma pm.length mcap],.nilIface]) (by simp [results,Tryz.results43,go_sem, *]) rfl ?_;refine Zb5 ?_ HE.out.symm;exact ⟨⟨_,_,pm,B,rfl,(Za7 HRK.out HR.out _ _ _ _ _ _).mono (by omega),HF.out⟩,(Za (Za (Za (Za (Za (Za (Below.step HWc.out hb.out) (Nat.le_refl _) _ _) (Nat.le_refl _) _ _) (Nat.le_refl _) _ _) (Nat.le_refl _) _ _) (Nat.le_refl _) _ _) (Nat.le_refl _) _ _)⟩
  ·have hne:((st:Int) != 8||!(T.toList.isEmpty))=true:=by
    rw [Lib.toList_data];by_cases h8:st=8
    ·have:T.size≠0:=fun h=>hend ⟨h8,h⟩;have h9:T.data.toList≠[]:=fun h=>this (by rw [← Ql,h];rfl)
     cases hq:T.data.toList with
     | nil=>exact absurd hq h9
     | cons x r=>simp
    ·have:((st:Int) != 8)=true:=by rw [bne_iff_ne];omega
     rw [this];rfl
   simp only [List.getElem?_toArray,List.getElem?_cons_zero] at c0;have HC:Hid (∀ w:World,_):=Zga T (by unfold maxLen;omega);have hct:=cut_ten T.data.toList;rw [Ql] at hct;have hcond:((st:Int) != 8)=true∨(((st:Int) != 8)=false∧T.toList.isEmpty=false):=by
    by_cases h8:((st:Int) != 8)=true
    ·exact .inl h8
    ·have h8':((st:Int) != 8)=false:=by simpa using h8
     rw [h8'] at hne;exact .inr ⟨h8',by simpa using hne⟩
   clear hne hend hh hR HC;by_cases hk:lnN T.data.toList<T.size
   ·rw [if_pos hk] at hct;obtain ⟨A,hA⟩:∃ A:ByteArray,A=⟨(T.data.toList.take (lnN T.data.toList)).toArray⟩:=⟨_,rfl⟩;obtain ⟨D,hD⟩:∃ D:ByteArray,D=⟨(T.data.toList.drop (lnN T.data.toList+1)).toArray⟩:=⟨_,rfl⟩;have hAd:A.data.toList=T.data.toList.take (lnN T.data.toList):=by rw [hA]
    have hDd:D.data.toList=T.data.toList.drop (lnN T.data.toList+1):=by rw [hD]
    have hAs:A.size≤40000:=by rw [hA,Zk,List.length_take,Ql];omega
    have hDs:D.size<T.size:=by rw [hD,Zk,List.length_drop,Ql];omega
    rw [← hAd,← hDd] at hct;have hrun2:=hrun.out;rw [hct,Za6 (Z1 _ _)] at hrun2;have HC2:Hid (∀ w:World,Calls Tryz.prog 86 #[.string T,.string ⟨#[10]⟩] w fun e w'=>e=.returned (.tuple #[.string A,.string D,.bool true])∧Bw w w'):=fun w=>by
     have:=Zga T (by unfold maxLen;omega) w;rw [if_pos hk,if_pos hk,decide_eq_true hk,← hA,← hD] at this;exact this
    have HT:Hid (∀ w1:World,Bw wr w1→Calls Tryz.prog 87 #[.pointer (some ⟨W.heap.size+1,0,none⟩),.string A] w1 fun e w'=>Took Wc (W.heap.size+1) (Zt st c A.data.toList) e w'):=fun w1 h=>take_any Wc w1 _ st c A hAs HG.out (Below.step hb.out h) (hr.out.keep h) hst8 hf.out (by omega);clear hA hD hAd hDd hct hrun hk
    cases hsx:Zt st c A.data.toList with
    | none =>
      have HE:Hid (RR=(none,n)):=by rw [hsx] at hrun2;exact hrun2.symm
      rw [hsx] at HT;clear hrun2 hr hf;rcases hcond with k8|⟨k8,kT⟩
      all_goals
       go_wp2_with (first
        | (go_at_call 86;refine (HC2.out _).mono ?_;rintro e w1 ⟨rfl,hb1⟩;obtain ⟨o1,otp,oa,oc⟩:=(HG.out.keep (Below.step hb.out hb1)).2.2.2.2.2;have B1:Hid (Bw wr w1):=hb1;clear hb1 HC2)
        | (go_at_call 87;refine (HT.out _ B1.out).mono ?_;rintro e w2 ⟨⟨er,rfl,tp,a,rfl⟩,hb2⟩;have rk:=(hb2.block W.heap.size (by omega)).trans HRB.out;have r0:=cell_of_row w2 W.heap.size 0 _ _ _ rk;have s0:=frozen_of_row w2 W.heap.size 0 _ _ rk;have r1:=cell_of_row w2 W.heap.size 1 _ _ _ rk;have s1:=frozen_of_row w2 W.heap.size 1 _ _ rk;have r2:=cell_of_row w2 W.heap.size 2 _ _ _ rk;have s2:=frozen_of_row w2 W.heap.size 2 _ _ rk;have r3:=cell_of_row w2 W.heap.size 3 _ _ _ rk;have s3:=frozen_of_row w2 W.heap.size 3 _ _ rk;have r4:=cell_of_row w2 W.heap.size 4 _ _ _ rk;have s4:=frozen_of_row w2 W.heap.size 4 _ _ rk;have r5:=cell_of_row w2 W.heap.size 5 _ _ _ rk;have s5:=frozen_of_row w2 W.heap.size 5 _ _ rk;simp only [List.getElem?_toArray,List.getElem?_cons_zero,List.getElem?_cons_succ] at r0 r1 r2 r3 r4 r5;clear rk;have B2:Hid (Bw Wc w2):=hb2;clear hb2 HT))
       refine bodyPost_ret (v:=.tuple #[.agg #[.string ⟨#[]⟩,.string ⟨#[]⟩,.slice none 0 0,.int .i64 0,.int .i64 0,.slice none 0 0],.iface 79 (.agg #[.int .i64 (n:Int),.iface tp (.pointer a)])]) (by simp [results,Tryz.results43,go_sem, *]) rfl ?_;refine Zb5 ?_ HE.out.symm;exact ⟨⟨tp,a,rfl⟩,(Za (Za (Za (Za (Za (Za (Below.step HWc.out B2.out) (Nat.le_refl _) _ _) (Nat.le_refl _) _ _) (Nat.le_refl _) _ _) (Nat.le_refl _) _ _) (Nat.le_refl _) _ _) (Nat.le_refl _) _ _)⟩
    | some p =>
      obtain ⟨st',c'⟩:=p;have h8':=X0 hsx;have HF2:Hid (Fit st' c' (n+1)):=Yy hf.out (by rw [Ql];exact hAs) hsx;rw [hsx] at HT hrun2;have HRUN:Hid (runL st' c' (cutL 10 D.data.toList) (n+1)=RR):=hrun2;clear hrun2 hr hf hsx;rcases hcond with k8|⟨k8,kT⟩
      all_goals
       go_wp2_with (first
        | (go_at_call 86;refine (HC2.out _).mono ?_;rintro e w1 ⟨rfl,hb1⟩;obtain ⟨o1,otp,oa,oc⟩:=(HG.out.keep (Below.step hb.out hb1)).2.2.2.2.2;have B1:Hid (Bw wr w1):=hb1;clear hb1 HC2)
        | (go_at_call 87;refine (HT.out _ B1.out).mono ?_;rintro e w2 ⟨⟨er,rfl,rfl,hrd⟩,hb2⟩;have B2:Hid (Bw Wc w2):=hb2;have RD:Hid (Rdr w2 Wc.heap.size (W.heap.size+1) st' c'):=hrd;clear hb2 hrd HT))
       go_roundw
       case rel=>exact ⟨D,n+1,st',c',rfl,by go_num,by omega,h8',RD,HF2,B2,HRUN⟩
       case measure=>first|exact hDs|(simp;omega)
   ·rw [if_neg hk] at hct;have hrun2:=hrun.out;rw [hct] at hrun2;have HE:Hid (RR=(none,n)):=by
     rw [Hid,← hrun2];show (if (st == 8)&&(T.data.toList == []) then (some c,0) else ((none:Option Cls),n))=_;rcases hcond with k8|⟨k8,kT⟩
     ·have:(st == 8)=false:=by rw [beq_eq_false_iff_ne];intro e;rw [e] at k8;simp at k8
      rw [this];rfl
     ·have:(T.data.toList == [])=false:=by rw [Lib.toList_data] at kT;cases hq:T.data.toList with|nil=>rw [hq] at kT;cases kT|cons x r=>rfl
      rw [this,Bool.and_false];rfl
    have HC2:Hid (∀ w:World,Calls Tryz.prog 86 #[.string T,.string ⟨#[10]⟩] w fun e w'=>e=.returned (.tuple #[.string T,.string ⟨#[]⟩,.bool false])∧Bw w w'):=fun w=>by
     have:=Zga T (by unfold maxLen;omega) w;rw [if_neg hk,if_neg hk,decide_eq_false hk] at this;exact this
    clear hrun2 hr hf hrun hct hk;rcases hcond with k8|⟨k8,kT⟩
    all_goals
     go_wp2_with (go_at_call 86;refine (HC2.out _).mono ?_;rintro e w1 ⟨rfl,hb1⟩;obtain ⟨o1,otp,oa,oc⟩:=(HG.out.keep (Below.step hb.out hb1)).2.2.2.2.2;have rk:=((Below.step hb.out hb1).block W.heap.size (by omega)).trans HRB.out;have r0:=cell_of_row w1 W.heap.size 0 _ _ _ rk;have s0:=frozen_of_row w1 W.heap.size 0 _ _ rk;have r1:=cell_of_row w1 W.heap.size 1 _ _ _ rk;have s1:=frozen_of_row w1 W.heap.size 1 _ _ rk;have r2:=cell_of_row w1 W.heap.size 2 _ _ _ rk;have s2:=frozen_of_row w1 W.heap.size 2 _ _ rk;have r3:=cell_of_row w1 W.heap.size 3 _ _ _ rk;have s3:=frozen_of_row w1 W.heap.size 3 _ _ rk;have r4:=cell_of_row w1 W.heap.size 4 _ _ _ rk;have s4:=frozen_of_row w1 W.heap.size 4 _ _ rk;have r5:=cell_of_row w1 W.heap.size 5 _ _ _ rk;have s5:=frozen_of_row w1 W.heap.size 5 _ _ rk;simp only [List.getElem?_toArray,List.getElem?_cons_zero,List.getElem?_cons_succ] at r0 r1 r2 r3 r4 r5;clear rk;have B1:Hid (Bw Wc w1):=Below.step hb.out hb1;clear hb1 HC2)
     refine bodyPost_ret (v:=.tuple #[.agg #[.string ⟨#[]⟩,.string ⟨#[]⟩,.slice none 0 0,.int .i64 0,.int .i64 0,.slice none 0 0],.iface 79 (.agg #[.int .i64 (n:Int),.iface otp (.pointer oa)])]) (by simp [results,Tryz.results43,go_sem, *]) rfl ?_;refine Zb5 ?_ HE.out.symm;exact ⟨⟨otp,oa,rfl⟩,(Za (Za (Za (Za (Za (Za (Below.step HWc.out B1.out) (Nat.le_refl _) _ _) (Nat.le_refl _) _ _) (Nat.le_refl _) _ _) (Nat.le_refl _) _ _) (Nat.le_refl _) _ _) (Nat.le_refl _) _ _)⟩
end Go.Proofs.YtfbhjfpkhofifaaGreatDoor
