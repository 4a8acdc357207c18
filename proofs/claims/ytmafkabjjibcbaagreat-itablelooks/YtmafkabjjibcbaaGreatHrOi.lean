import Derived.Test.YtmafkabjjibcbaaGreatHrQ
set_option maxRecDepth 100000
namespace Go.Proofs.YtmafkabjjibcbaaGreat
open Go.RowKit Go.Maps
set_option maxHeartbeats 4000000 in
theorem Zet (N b mb:Nat) (ps:List Plc) (vp:Value) (pv:List PV) (nm su:ByteArray) (fl ld:Int) (vi vm:Value) (key:ByteArray) (hkz:key.size≤maxLen) (hnz:nm.size≤maxLen) (W:World) (h:HW W N b mb ps vp pv) (k:Nat) (q:Plc) (hl:Yd ps key.data.toList=some k) (hq:ps[k]?=some q) (hqz:q.c.nm.size≤maxLen) (ft:Bool)
 (hF:∀ w:World,Bw W w→Calls Tryz.prog 116 #[.pointer (some ⟨b,0,none⟩),.int .i64 (k:Int)] w fun e w'=>e=.returned (.bool ft)∧Bw w w') :
 Calls Tryz.prog 163 #[.pointer (some ⟨b,0,none⟩),.agg #[.string nm,.string su,vi,.int .i64 fl,.int .i64 ld,vm],.string key,.func (.func 116) #[.pointer (some ⟨b,0,none⟩)] #[]] W fun e w'=>e=.returned (abvV (if ft then (if pubB q.c.fl||Qf q.c nm ld then .ok k else .error 22) else .error 23))∧Bw W w':=by
 have b1:=cell_of_row W b 1 _ _ _ h.hb
 simp only [List.getElem?_toArray,List.getElem?_cons_zero,List.getElem?_cons_succ] at b1
 obtain ⟨D,hD⟩:∃ D,Qk ps=D:=⟨_,rfl⟩
 have hz:Maps.has D (.string key.data.toList)=true:=by
  rw [← hD,Qk,Zbg _ _ _ _ isMap_empty]
  rw [Yd] at hl
  rw [hl];rfl
 have hat:∀ cc:Int,D.atKey (.string key.data.toList) (.lit (.int .i64 0))=.lit (.int .i64 cc)→cc=(k:Int):=fun cc hc=>by
  rw [← hD,Qk,Zk5 _ _ _ _ _ isMap_empty] at hc
  rw [Yd] at hl
  rw [hl] at hc
  injection hc with h1
  injection h1 with _ h2
  exact h2.symm
 have hown:=h.map
 rw [hD] at hown
 have HOWN:Hid (∀ o,(W.alloc o).ownsMap Tryz.prog 9 (plainElem (H:=Unit) Tryz.prog 3) mb ps.length D):=fun o=>hown.alloc o
 have hkey:=Go.WideMaps.keyOf_string_mk (P:=Tryz.prog) Tryz.underlying9 hkz
 have HKEY:Hid (keyOf Tryz.prog 9 (.string key)=some (.string key.data.toList)):=hkey
 obtain ⟨kl,hkl⟩:∃ k,k=Lit.string key.data.toList:=⟨_,rfl⟩
 rw [← hkl] at HKEY hz hat
 have HAT:Hid (∀ cc:Int,D.atKey kl (.lit (.int .i64 0))=.lit (.int .i64 cc)→cc=(k:Int)):=hat
 have hlt:b<W.heap.size:=(Array.getElem?_eq_some_iff.1 h.hb).1
 have hlm:¬ b=W.heap.size:=by omega
 obtain ⟨g,cap,p,rfl,hpl,hcell⟩:=h.at hq
 have hkn:(k:Int)<(ps.length:Int):=by have:=(List.getElem?_eq_some_iff.1 hq).1;omega
 have b0:=cell_of_row W b 0 _ _ _ h.hb
 simp only [List.getElem?_toArray,List.getElem?_cons_zero] at b0
 have g0:W.cell? ⟨g,k * 8,none⟩=some (.string p.nm):=hcell 0 (by omega)
 have g1:W.cell? ⟨g,k * 8+1,none⟩=some (.string p.su):=hcell 1 (by omega)
 have g2:W.cell? ⟨g,k * 8+2,none⟩=some p.vi:=hcell 2 (by omega)
 have g3:W.cell? ⟨g,k * 8+3,none⟩=some (.int .i64 p.fl):=hcell 3 (by omega)
 have g4:W.cell? ⟨g,k * 8+4,none⟩=some (.int .i64 p.ld):=hcell 4 (by omega)
 have g5:W.cell? ⟨g,k * 8+5,none⟩=some p.vm:=hcell 5 (by omega)
 have hgl:g<W.heap.size:=World.block_lt_of_cell? W _ g0
 obtain ⟨qm,_,hoc⟩:=hpl.own
 obtain ⟨ai,ci,hvi⟩:=ownv hoc.ifs
 obtain ⟨am,cm,hvm⟩:=ownv hoc.ms
 rw [hvi] at g2
 rw [hvm] at g5
 have HF:Hid (∀ w:World,Bw W w→Calls Tryz.prog 116 #[.pointer (some ⟨b,0,none⟩),.int .i64 (k:Int)] w fun e w'=>e=.returned (.bool ft)∧Bw w w'):=hF
 have HP:Hid (∀ w:World,Calls Tryz.prog 223 #[.agg #[.string nm,.string su,vi,.int .i64 fl,.int .i64 ld,vm]] w fun e w'=>e=.returned (.agg #[.int .i64 ld,.string ⟨(pkgL nm.data.toList).toArray⟩])∧Bw w w'):=fun w=>Yv nm su fl ld vi vm w hnz
 have HQ:Hid (∀ w:World,Calls Tryz.prog 223 #[.agg #[.string p.nm,.string p.su,.slice ai q.c.ni ci,.int .i64 p.fl,.int .i64 p.ld,.slice am qm.length cm]] w fun e w'=>e=.returned (.agg #[.int .i64 q.c.ld,.string ⟨(pkgL q.c.nm.data.toList).toArray⟩])∧Bw w w'):=fun w=>by rw [← hpl.ld,← hpl.nm];exact Yv p.nm p.su p.fl p.ld _ _ w (by rw [hpl.nm];exact hqz)
 have hfl:p.fl=q.c.fl:=hpl.fl
 rw [← hfl]
 have HS:Hid (Qf q.c nm ld=((q.c.ld == ld)&&(pkgL q.c.nm.data.toList == pkgL nm.data.toList))):=rfl
 generalize Qf q.c nm ld=sp at *
 clear h hD hown hkey hkl hl hat hpl hcell hF hq hfl hoc hvi hvm
 cases ft with
 | false =>
   go_enter Tryz.func163,Tryz.ntmps163
   go_wp2_with (first
    | (at_lookup;refine wpList_lookup_own_ok_int _ rfl _ _ 145 rfl 9 3 .i64 law9 Tryz.underlying145 Tryz.underlying3 (Ziq _) mb ps.length D rfl (HOWN.out _) _ _ rfl HKEY.out ?_;intro cc hat hwc;obtain rfl:=HAT.out cc hat;clear hat hwc)
    | (go_at_call 116;refine (HF.out _ ((Below.refl _ _).alloc (Nat.le_refl _) _)).mono ?_;rintro e w1 ⟨rfl,hb⟩;have B1:Hid (Bw W w1):=Zb ((Below.refl _ _).alloc (Nat.le_refl _) _) hb;clear hb HF))
   exact bodyPost_ret (results_tmp2 rfl _ _ _) rfl ⟨rfl,B1.out⟩
 | true =>
   obtain ⟨R,hR⟩:∃ R,R=abvV (if pubB p.fl||sp then .ok k else .error 22):=⟨_,rfl⟩
   simp only [if_true]
   rw [← hR]
   have HR:Hid (R=abvV (if pubB p.fl||sp then .ok k else .error 22)):=hR
   clear hR
   go_enter Tryz.func163,Tryz.ntmps163
   go_wp2_with (first
    | (at_lookup;refine wpList_lookup_own_ok_int _ rfl _ _ 145 rfl 9 3 .i64 law9 Tryz.underlying145 Tryz.underlying3 (Ziq _) mb ps.length D rfl (HOWN.out _) _ _ rfl HKEY.out ?_;intro cc hat hwc;obtain rfl:=HAT.out cc hat;clear hat hwc)
    | (go_at_call 116;(refine (HF.out _ ((Below.refl _ _).alloc (Nat.le_refl _) _)).mono ?_;rintro e w1 ⟨rfl,hb⟩;have B1:Hid (Bw W w1):=Zb ((Below.refl _ _).alloc (Nat.le_refl _) _) hb;have bb:=B1.out;have b0:=(bb.cell (p:=⟨b,0,none⟩) hlt).trans b0;have g0:=(bb.cell (p:=⟨g,k * 8,none⟩) hgl).trans g0;have g1:=(bb.cell (p:=⟨g,k * 8+1,none⟩) hgl).trans g1;have g2:=(bb.cell (p:=⟨g,k * 8+2,none⟩) hgl).trans g2;have g3:=(bb.cell (p:=⟨g,k * 8+3,none⟩) hgl).trans g3;have g4:=(bb.cell (p:=⟨g,k * 8+4,none⟩) hgl).trans g4;have g5:=(bb.cell (p:=⟨g,k * 8+5,none⟩) hgl).trans g5;have hl1:b<w1.heap.size:=Nat.lt_of_lt_of_le hlt bb.size;have hg1:g<w1.heap.size:=Nat.lt_of_lt_of_le hgl bb.size;have hcw:=(hb.block W.heap.size (by simp)).trans (Qo W _);have HCW:Hid (w1.heap[W.heap.size]?=some (.cells #[.string nm,.string su,vi,.int .i64 fl,.int .i64 ld,vm] 73 (0,0))):=hcw;clear hb HF bb hcw)))
   obtain ⟨Wm,hWm⟩:∃ x,x=w1.alloc (.cells #[.string p.nm,.string p.su,.slice ai q.c.ni ci,.int .i64 p.fl,.int .i64 p.ld,.slice am qm.length cm] 73):=⟨_,rfl⟩
   have BM:Hid (Bw w1 Wm):=by rw [hWm];exact (Below.refl _ _).alloc (Nat.le_refl _) _
   have hm0:Wm.heap[w1.heap.size]?=some (.cells #[.string p.nm,.string p.su,.slice ai q.c.ni ci,.int .i64 p.fl,.int .i64 p.ld,.slice am qm.length cm] 73 (0,0)):=by rw [hWm];exact Qo _ _
   have hWl:W.heap.size<w1.heap.size:=(Array.getElem?_eq_some_iff.1 HCW.out).1
   have hm1:=(BM.out.block W.heap.size hWl).trans HCW.out
   have hsm:w1.heap.size<Wm.heap.size:=by rw [hWm];simp
   have hsW:W.heap.size<Wm.heap.size:=by omega
   rw [← hWm]
   have m0:=cell_of_row Wm w1.heap.size 0 _ _ _ hm0
   have m1:=cell_of_row Wm w1.heap.size 1 _ _ _ hm0
   have m2:=cell_of_row Wm w1.heap.size 2 _ _ _ hm0
   have m3:=cell_of_row Wm w1.heap.size 3 _ _ _ hm0
   have m4:=cell_of_row Wm w1.heap.size 4 _ _ _ hm0
   have m5:=cell_of_row Wm w1.heap.size 5 _ _ _ hm0
   have n0:=cell_of_row Wm W.heap.size 0 _ _ _ hm1
   have n1:=cell_of_row Wm W.heap.size 1 _ _ _ hm1
   have n2:=cell_of_row Wm W.heap.size 2 _ _ _ hm1
   have n3:=cell_of_row Wm W.heap.size 3 _ _ _ hm1
   have n4:=cell_of_row Wm W.heap.size 4 _ _ _ hm1
   have n5:=cell_of_row Wm W.heap.size 5 _ _ _ hm1
   simp only [List.getElem?_toArray,List.getElem?_cons_zero,List.getElem?_cons_succ] at m0 m1 m2 m3 m4 m5 n0 n1 n2 n3 n4 n5
   have BB:Hid (Bw W Wm):=Zb B1.out BM.out
   have hsz1:W.heap.size≤Wm.heap.size:=by omega
   clear b0 b1 g0 g1 g2 g3 g4 g5 hm0 hm1 HCW HOWN HKEY HAT hl1 hg1 B1 BM hWm hlt hlm hgl
   have PB:Hid (pubB p.fl=(bits .and .i64 p.fl 1 != 0)):=rfl
   generalize pubB p.fl=pb at *
   cases pb with
   | true =>
     have h0:(bits .and .i64 p.fl 1 == 0)=false:=by have:=PB.out;rw [bne] at this;cases e:(bits .and .i64 p.fl 1 == 0) with
      | true=>rw [e] at this;cases this
      | false=>rfl
     have h01:¬ bits .and .i64 p.fl 1=0:=by simpa using h0
     clear PB HP HQ HS
     go_quiet ((fail))
     go_wp2
     exact bodyPost_ret (results_tmp2 rfl _ _ _) rfl ⟨by rw [HR.out];rfl,below_drewN BB.out _⟩
   | false =>
     have h0:bits .and .i64 p.fl 1=0:=by have:=PB.out;simpa [bne] using this.symm
     have S0:Hid (sp=((q.c.ld == ld)&&(pkgL q.c.nm.data.toList == pkgL nm.data.toList))):=HS
     clear PB HS
     by_cases hld:q.c.ld=ld
     ·by_cases hpk:pkgL q.c.nm.data.toList=pkgL nm.data.toList
      ·have hsp:sp=true:=by rw [S0.out,hld,hpk];simp
       rw [hld,hpk] at HQ
       clear hld hpk S0
       generalize (⟨(pkgL nm.data.toList).toArray⟩:ByteArray)=s1 at *
       go_region_held3 (fun w'=>w'.cell? ⟨w1.heap.size,0,none⟩=some (.string p.nm)∧w'.cell? ⟨w1.heap.size,1,none⟩=some (.string p.su)∧w'.cell? ⟨w1.heap.size,2,none⟩=some (.slice ai q.c.ni ci)∧w'.cell? ⟨w1.heap.size,3,none⟩=some (.int .i64 p.fl)∧w'.cell? ⟨w1.heap.size,4,none⟩=some (.int .i64 p.ld)∧w'.cell? ⟨w1.heap.size,5,none⟩=some (.slice am qm.length cm)∧w'.cell? ⟨W.heap.size,0,none⟩=some (.string nm)∧w'.cell? ⟨W.heap.size,1,none⟩=some (.string su)∧w'.cell? ⟨W.heap.size,2,none⟩=some vi∧w'.cell? ⟨W.heap.size,3,none⟩=some (.int .i64 fl)∧w'.cell? ⟨W.heap.size,4,none⟩=some (.int .i64 ld)∧w'.cell? ⟨W.heap.size,5,none⟩=some vm) (go_keep)
        (first
         | (go_at_call 223;refine (HQ.out _).mono ?_;rintro e w2 ⟨rfl,hb2⟩;have B2:Hid (Bw W w2):=Zb BB.out.drew hb2;have kp:∀ (bb j:Nat) (v:Value),bb<Wm.heap.size→Wm.cell? ⟨bb,j,none⟩=some v→w2.cell? ⟨bb,j,none⟩=some v:=fun bb j v hl h=>(hb2.cell (p:=⟨bb,j,none⟩) hl).trans h;replace m0:=kp _ _ _ hsm m0;replace m1:=kp _ _ _ hsm m1;replace m2:=kp _ _ _ hsm m2;replace m3:=kp _ _ _ hsm m3;replace m4:=kp _ _ _ hsm m4;replace m5:=kp _ _ _ hsm m5;replace n0:=kp _ _ _ hsW n0;replace n1:=kp _ _ _ hsW n1;replace n2:=kp _ _ _ hsW n2;replace n3:=kp _ _ _ hsW n3;replace n4:=kp _ _ _ hsW n4;replace n5:=kp _ _ _ hsW n5;have hs2:Wm.heap.size≤w2.heap.size:=hb2.size;replace hsm:w1.heap.size<w2.heap.size:=Nat.lt_of_lt_of_le hsm hs2;replace hsW:W.heap.size<w2.heap.size:=Nat.lt_of_lt_of_le hsW hs2;clear kp hb2 HQ)
         | (go_at_call 223;refine (HP.out _).mono ?_;rintro e w3 ⟨rfl,hb3⟩;have B3:Hid (Bw W w3):=Zb B2.out hb3;have kp:∀ (bb j:Nat) (v:Value),bb<w2.heap.size→w2.cell? ⟨bb,j,none⟩=some v→w3.cell? ⟨bb,j,none⟩=some v:=fun bb j v hl h=>(hb3.cell (p:=⟨bb,j,none⟩) hl).trans h;replace m0:=kp _ _ _ hsm m0;replace m1:=kp _ _ _ hsm m1;replace m2:=kp _ _ _ hsm m2;replace m3:=kp _ _ _ hsm m3;replace m4:=kp _ _ _ hsm m4;replace m5:=kp _ _ _ hsm m5;replace n0:=kp _ _ _ hsW n0;replace n1:=kp _ _ _ hsW n1;replace n2:=kp _ _ _ hsW n2;replace n3:=kp _ _ _ hsW n3;replace n4:=kp _ _ _ hsW n4;replace n5:=kp _ _ _ hsW n5;clear kp hb3 HP))
       go_wp2
       refine bodyPost_ret (results_tmp2 rfl _ _ _) rfl ⟨by rw [HR.out,hsp];rfl,B3.out⟩
      ·have hsp:sp=false:=by rw [S0.out];simp [hpk]
       have hs12:¬ (⟨(pkgL q.c.nm.data.toList).toArray⟩:ByteArray)=⟨(pkgL nm.data.toList).toArray⟩:=fun e=>hpk (by injection e with e;simpa using e)
       have hs13:∀ x:List UInt8,(⟨x.toArray⟩:ByteArray).toList=x:=fun x=>by rw [Lib.toList_data]
       have hs14:¬ (⟨(pkgL q.c.nm.data.toList).toArray⟩:ByteArray).toList=(⟨(pkgL nm.data.toList).toArray⟩:ByteArray).toList:=by rw [hs13,hs13];exact hpk
       clear hs13
       rw [hld] at HQ
       clear hld hpk S0
       generalize (⟨(pkgL nm.data.toList).toArray⟩:ByteArray)=s1 at *
       generalize (⟨(pkgL q.c.nm.data.toList).toArray⟩:ByteArray)=s2 at *
       go_region_held3 (fun w'=>w'.cell? ⟨w1.heap.size,0,none⟩=some (.string p.nm)∧w'.cell? ⟨w1.heap.size,1,none⟩=some (.string p.su)∧w'.cell? ⟨w1.heap.size,2,none⟩=some (.slice ai q.c.ni ci)∧w'.cell? ⟨w1.heap.size,3,none⟩=some (.int .i64 p.fl)∧w'.cell? ⟨w1.heap.size,4,none⟩=some (.int .i64 p.ld)∧w'.cell? ⟨w1.heap.size,5,none⟩=some (.slice am qm.length cm)∧w'.cell? ⟨W.heap.size,0,none⟩=some (.string nm)∧w'.cell? ⟨W.heap.size,1,none⟩=some (.string su)∧w'.cell? ⟨W.heap.size,2,none⟩=some vi∧w'.cell? ⟨W.heap.size,3,none⟩=some (.int .i64 fl)∧w'.cell? ⟨W.heap.size,4,none⟩=some (.int .i64 ld)∧w'.cell? ⟨W.heap.size,5,none⟩=some vm) (go_keep)
        (first
         | (go_at_call 223;refine (HQ.out _).mono ?_;rintro e w2 ⟨rfl,hb2⟩;have B2:Hid (Bw W w2):=Zb BB.out.drew hb2;have kp:∀ (bb j:Nat) (v:Value),bb<Wm.heap.size→Wm.cell? ⟨bb,j,none⟩=some v→w2.cell? ⟨bb,j,none⟩=some v:=fun bb j v hl h=>(hb2.cell (p:=⟨bb,j,none⟩) hl).trans h;replace m0:=kp _ _ _ hsm m0;replace m1:=kp _ _ _ hsm m1;replace m2:=kp _ _ _ hsm m2;replace m3:=kp _ _ _ hsm m3;replace m4:=kp _ _ _ hsm m4;replace m5:=kp _ _ _ hsm m5;replace n0:=kp _ _ _ hsW n0;replace n1:=kp _ _ _ hsW n1;replace n2:=kp _ _ _ hsW n2;replace n3:=kp _ _ _ hsW n3;replace n4:=kp _ _ _ hsW n4;replace n5:=kp _ _ _ hsW n5;have hs2:Wm.heap.size≤w2.heap.size:=hb2.size;replace hsm:w1.heap.size<w2.heap.size:=Nat.lt_of_lt_of_le hsm hs2;replace hsW:W.heap.size<w2.heap.size:=Nat.lt_of_lt_of_le hsW hs2;clear kp hb2 HQ)
         | (go_at_call 223;refine (HP.out _).mono ?_;rintro e w3 ⟨rfl,hb3⟩;have B3:Hid (Bw W w3):=Zb B2.out hb3;have kp:∀ (bb j:Nat) (v:Value),bb<w2.heap.size→w2.cell? ⟨bb,j,none⟩=some v→w3.cell? ⟨bb,j,none⟩=some v:=fun bb j v hl h=>(hb3.cell (p:=⟨bb,j,none⟩) hl).trans h;replace m0:=kp _ _ _ hsm m0;replace m1:=kp _ _ _ hsm m1;replace m2:=kp _ _ _ hsm m2;replace m3:=kp _ _ _ hsm m3;replace m4:=kp _ _ _ hsm m4;replace m5:=kp _ _ _ hsm m5;replace n0:=kp _ _ _ hsW n0;replace n1:=kp _ _ _ hsW n1;replace n2:=kp _ _ _ hsW n2;replace n3:=kp _ _ _ hsW n3;replace n4:=kp _ _ _ hsW n4;replace n5:=kp _ _ _ hsW n5;clear kp hb3 HP))
       go_wp2
       refine bodyPost_ret (results_tmp2 rfl _ _ _) rfl ⟨by rw [HR.out,hsp];rfl,B3.out⟩
     ·have hsp:sp=false:=by rw [S0.out];simp [hld]
      generalize (⟨(pkgL nm.data.toList).toArray⟩:ByteArray)=s1 at *
      generalize (⟨(pkgL q.c.nm.data.toList).toArray⟩:ByteArray)=s2 at *
      clear S0
      go_region_held3 (fun w'=>w'.cell? ⟨w1.heap.size,0,none⟩=some (.string p.nm)∧w'.cell? ⟨w1.heap.size,1,none⟩=some (.string p.su)∧w'.cell? ⟨w1.heap.size,2,none⟩=some (.slice ai q.c.ni ci)∧w'.cell? ⟨w1.heap.size,3,none⟩=some (.int .i64 p.fl)∧w'.cell? ⟨w1.heap.size,4,none⟩=some (.int .i64 p.ld)∧w'.cell? ⟨w1.heap.size,5,none⟩=some (.slice am qm.length cm)∧w'.cell? ⟨W.heap.size,0,none⟩=some (.string nm)∧w'.cell? ⟨W.heap.size,1,none⟩=some (.string su)∧w'.cell? ⟨W.heap.size,2,none⟩=some vi∧w'.cell? ⟨W.heap.size,3,none⟩=some (.int .i64 fl)∧w'.cell? ⟨W.heap.size,4,none⟩=some (.int .i64 ld)∧w'.cell? ⟨W.heap.size,5,none⟩=some vm) (go_keep)
       (first
        | (go_at_call 223;refine (HQ.out _).mono ?_;rintro e w2 ⟨rfl,hb2⟩;have B2:Hid (Bw W w2):=Zb BB.out.drew hb2;have kp:∀ (bb j:Nat) (v:Value),bb<Wm.heap.size→Wm.cell? ⟨bb,j,none⟩=some v→w2.cell? ⟨bb,j,none⟩=some v:=fun bb j v hl h=>(hb2.cell (p:=⟨bb,j,none⟩) hl).trans h;replace m0:=kp _ _ _ hsm m0;replace m1:=kp _ _ _ hsm m1;replace m2:=kp _ _ _ hsm m2;replace m3:=kp _ _ _ hsm m3;replace m4:=kp _ _ _ hsm m4;replace m5:=kp _ _ _ hsm m5;replace n0:=kp _ _ _ hsW n0;replace n1:=kp _ _ _ hsW n1;replace n2:=kp _ _ _ hsW n2;replace n3:=kp _ _ _ hsW n3;replace n4:=kp _ _ _ hsW n4;replace n5:=kp _ _ _ hsW n5;have hs2:Wm.heap.size≤w2.heap.size:=hb2.size;replace hsm:w1.heap.size<w2.heap.size:=Nat.lt_of_lt_of_le hsm hs2;replace hsW:W.heap.size<w2.heap.size:=Nat.lt_of_lt_of_le hsW hs2;clear kp hb2 HQ)
        | (go_at_call 223;refine (HP.out _).mono ?_;rintro e w3 ⟨rfl,hb3⟩;have B3:Hid (Bw W w3):=Zb B2.out hb3;have kp:∀ (bb j:Nat) (v:Value),bb<w2.heap.size→w2.cell? ⟨bb,j,none⟩=some v→w3.cell? ⟨bb,j,none⟩=some v:=fun bb j v hl h=>(hb3.cell (p:=⟨bb,j,none⟩) hl).trans h;replace m0:=kp _ _ _ hsm m0;replace m1:=kp _ _ _ hsm m1;replace m2:=kp _ _ _ hsm m2;replace m3:=kp _ _ _ hsm m3;replace m4:=kp _ _ _ hsm m4;replace m5:=kp _ _ _ hsm m5;replace n0:=kp _ _ _ hsW n0;replace n1:=kp _ _ _ hsW n1;replace n2:=kp _ _ _ hsW n2;replace n3:=kp _ _ _ hsW n3;replace n4:=kp _ _ _ hsW n4;replace n5:=kp _ _ _ hsW n5;clear kp hb3 HP))
      go_wp2
      refine bodyPost_ret (results_tmp2 rfl _ _ _) rfl ⟨by rw [HR.out,hsp];rfl,B3.out⟩
end Go.Proofs.YtmafkabjjibcbaaGreat
