import Derived.Test.YtkoogmegdfpopaaGreatZkD
import Derived.Test.YtkoogmegdfpopaaGreatTypesRef
set_option maxHeartbeats 4000000
set_option maxRecDepth 100000
namespace Go.Proofs.YtkoogmegdfpopaaGreat
open Go.RowKit Go.Maps
theorem Yq (nm su:ByteArray) (fl ld:Int) (vi vm:Value) (W:World) (hs:nm.size≤maxLen):Calls Tryz.prog 76 #[.agg #[.string nm,.string su,vi,.int .i64 fl,.int .i64 ld,vm]] W fun e w'=>e=.returned (.agg #[.int .i64 ld,.string ⟨(pkgL nm.data.toList).toArray⟩])∧Bw W w':=by
 have HP:Hid (∀ w:World,Calls Tryz.prog 98 #[.string nm] w fun e w'=>e=.returned (.string ⟨(pkgL nm.data.toList).toArray⟩)∧w'=w):=fun w=>Zer nm hs w
 generalize (⟨(pkgL nm.data.toList).toArray⟩:ByteArray)=pk at *
 clear hs
 go_enter Tryz.func76,Tryz.ntmps76
 go_wp2
 go_region_held3 (fun w'=>w'.cell? ⟨W.heap.size,0,none⟩=some (.string nm)∧w'.cell? ⟨W.heap.size,4,none⟩=some (.int .i64 ld)) (go_keep) (first|(go_at_call 98;refine (HP.out _).mono ?_;rintro e w9 ⟨rfl,hw9⟩;rw [hw9];clear hw9 w9))
 go_wp2
 refine bodyPost_ret (v:=.agg #[.int .i64 ld,.string pk]) (by simp [results,Tryz.results76,go_sem]) rfl ⟨rfl,?_⟩
 exact (((Below.refl _ _).alloc (Nat.le_refl _) _).alloc (by simp) _).drew
def Qe (p:Plc):List UInt8:=p.c.nm.data.toList
def X7 (key:List UInt8) (k:Nat):List Plc→Option Nat
 | []=>none
 | p::r=>match X7 key (k+1) r with
   | some j=>some j
   | none=>if Qe p=key then some k else none
def Z4 (ps:List Plc) (key:List UInt8):Option Nat:=X7 key 0 ps
theorem J8 (key:List UInt8) (ps:List Plc) (D:DataW Unit) (k:Nat) (hD:IsMap D):Maps.has (Zdi D k ps) (.string key)=((X7 key k ps).isSome||Maps.has D (.string key)):=by
 induction ps generalizing D k with
 | nil=>rfl
 | cons p r ih =>
   rw [Zdi,ih _ _ (hD.put _ _),X7]
   cases hl:X7 key (k+1) r with
   | some j=>rfl
   | none =>
     by_cases hn:Qe p=key
     ·rw [if_pos hn]
      have e:Maps.has (D.put (.string p.c.nm.data.toList) (.lit (.int .i64 (k:Int)))) (.string key)=true:=by
       rw [← hn];exact has_put_same hD (k:=.string p.c.nm.data.toList) (show WideAt.IsKeyLit (.string p.c.nm.data.toList) from trivial) _
      rw [e];rfl
     ·rw [if_neg hn,has_put_other (fun e=>hn (by injection e with e;exact e.symm))]
theorem Zia (key:List UInt8) (z:DataW Unit) (ps:List Plc) (D:DataW Unit) (k:Nat) (hD:IsMap D):(Zdi D k ps).atKey (.string key) z=(match X7 key k ps with|some j=>.lit (.int .i64 (j:Int))|none=>D.atKey (.string key) z):=by
 induction ps generalizing D k with
 | nil=>rfl
 | cons p r ih =>
   rw [Zdi,ih _ _ (hD.put _ _),X7]
   cases hl:X7 key (k+1) r with
   | some j=>rfl
   | none =>
     by_cases hn:Qe p=key
     ·rw [if_pos hn]
      show (D.put (.string p.c.nm.data.toList) (.lit (.int .i64 (k:Int)))).atKey (.string key) z=_
      rw [← hn];exact atKey_put_same hD (k:=.string p.c.nm.data.toList) (show WideAt.IsKeyLit (.string p.c.nm.data.toList) from trivial) _ _
     ·rw [if_neg hn]
      exact atKey_put_other (fun e=>hn (by injection e with e;exact e.symm)) _ _
theorem look_lt (key:List UInt8) (ps:List Plc) (k j:Nat) (h:X7 key k ps=some j):k≤j∧∃ q,ps[j - k]?=some q∧Qe q=key:=by
 induction ps generalizing k with
 | nil=>cases h
 | cons p r ih =>
   rw [X7] at h
   cases hl:X7 key (k+1) r with
   | some i =>
     rw [hl] at h
     cases h
     obtain ⟨h1,q,h2,h3⟩:=ih _ hl
     refine ⟨by omega,q,?_,h3⟩
     rw [show j - k=(j - (k+1))+1 by omega,List.getElem?_cons_succ]
     exact h2
   | none =>
     rw [hl] at h
     by_cases hn:Qe p=key
     ·rw [if_pos hn] at h
      cases h
      exact ⟨Nat.le_refl _,p,by simp,hn⟩
     ·rw [if_neg hn] at h;cases h
theorem fits_any (N b mb bw bc:Nat) (ps:List Plc) (vp:Value) (pv:List PV) (k:Nat) (q:Plc) (nm su:ByteArray) (fl ld:Int) (vi vm:Value) (W:World) (h:HW W N b mb ps vp pv) (hq:ps[k]?=some q)
 (hw:W.heap[bw]?=some (.cells #[.pointer (some ⟨b,0,none⟩)] 24 (0,0))) (hc:W.heap[bc]?=some (.cells #[.string nm,.string su,vi,.int .i64 fl,.int .i64 ld,vm] 33 (0,0))) :
 Calls Tryz.prog 54 #[.int .i64 (k:Int),.pointer (some ⟨bw,0,none⟩),.pointer (some ⟨bc,0,none⟩)] W fun e w'=>e=.returned (.bool (!ifB q.c.fl&&(decide (k=0)||!ifB fl)))∧Bw W w':=by
 have HI:Hid (Calls Tryz.prog 55 #[.pointer (some ⟨b,0,none⟩),.int .i64 (k:Int)] W fun e w'=>e=.returned (.bool (ifB q.c.fl))∧Bw W w'):=Jt N b mb ps vp pv k q W h hq
 have HJ:Hid (∀ w:World,Calls Tryz.prog 56 #[.agg #[.string nm,.string su,vi,.int .i64 fl,.int .i64 ld,vm]] w fun e w'=>e=.returned (.bool (ifB fl))∧Bw w w'):=fun w=>Zap nm su fl ld vi vm w
 have w0:=cell_of_row W bw 0 _ _ _ hw
 simp only [List.getElem?_toArray,List.getElem?_cons_zero] at w0
 have HC:Hid (W.heap[bc]?=some (.cells #[.string nm,.string su,vi,.int .i64 fl,.int .i64 ld,vm] 33 (0,0))):=hc
 have hlt:bc<W.heap.size:=(Array.getElem?_eq_some_iff.1 hc).1
 generalize ifB q.c.fl=zq at *
 generalize ifB fl=zf at *
 clear h hq hw hc
 by_cases hz:k=0
 ·subst hz
  cases zq <;> cases zf <;>
  ·go_enter Tryz.func54,Tryz.ntmps54
   go_wp2_with (first
    | (go_at_call 55;refine HI.out.mono ?_;rintro e w1 ⟨rfl,hb⟩;have B1:Hid (Bw W w1):=hb;clear hb HI)
    | (go_at_call 56;refine (HJ.out _).mono ?_;rintro e w2 ⟨rfl,hb⟩;have B2:Hid (Bw W w2):=Zj B1.out hb;clear hb HJ))
   exact bodyPost_ret (results_tmp rfl _ _ _) rfl ⟨rfl,by first|exact B1.out|exact B2.out⟩
 ·have hz2:¬ (k:Int)=0:=by omega
  have hz3:decide (k=0)=false:=decide_eq_false hz
  cases zq <;> cases zf <;>
  ·go_enter Tryz.func54,Tryz.ntmps54
   go_wp2_with (first
    | (go_at_call 55;refine HI.out.mono ?_;rintro e w1 ⟨rfl,hb⟩;have B1:Hid (Bw W w1):=hb;have hc1:=(hb.block bc hlt).trans HC.out;have c0:=cell_of_row w1 bc 0 _ _ _ hc1;have c1:=cell_of_row w1 bc 1 _ _ _ hc1;have c2:=cell_of_row w1 bc 2 _ _ _ hc1;have c3:=cell_of_row w1 bc 3 _ _ _ hc1;have c4:=cell_of_row w1 bc 4 _ _ _ hc1;have c5:=cell_of_row w1 bc 5 _ _ _ hc1;simp only [List.getElem?_toArray,List.getElem?_cons_zero,List.getElem?_cons_succ] at c0 c1 c2 c3 c4 c5;clear hb HI hc1)
    | (go_at_call 56;refine (HJ.out _).mono ?_;rintro e w2 ⟨rfl,hb⟩;have B2:Hid (Bw W w2):=Zj B1.out hb;clear hb HJ))
   exact bodyPost_ret (results_tmp rfl _ _ _) rfl ⟨by first|rfl|(rw [hz3];rfl)|(simp [hz];done),by first|exact B2.out|exact B1.out⟩
theorem Xt (w:World) (o:Obj):(w.alloc o).heap[w.heap.size]?=some o:=by unfold World.alloc;simp
def pubB (fl:Int):Bool:=bits .and .i64 fl 1 != 0
def Xl (q:HC) (nm:ByteArray) (ld:Int):Bool:=(q.ld == ld)&&(pkgL q.nm.data.toList == pkgL nm.data.toList)
def Zv (ps:List Plc) (nm:ByteArray) (ld:Int) (fit:Nat→Plc→Bool) (key:List UInt8):Except Int Nat :=
 match Z4 ps key with
 | none=>.error 20
 | some k=>match ps[k]? with
   | none=>.error 20
   | some q=>if fit k q then (if pubB q.c.fl||Xl q.c nm ld then .ok k else .error 22) else .error 23
def abvV:Except Int Nat→Value
 | .ok k=>.tuple #[.int .i64 (k:Int),.int .i64 0]
 | .error e=>.tuple #[.int .i64 0,.int .i64 e]
theorem Qa (fv:Value) (N b mb:Nat) (ps:List Plc) (vp:Value) (pv:List PV) (nm su:ByteArray) (fl ld:Int) (vi vm:Value) (key:ByteArray) (hkz:key.size≤maxLen) (W:World) (h:HW W N b mb ps vp pv) (hl:Z4 ps key.data.toList=none) :
 Calls Tryz.prog 53 #[.pointer (some ⟨b,0,none⟩),.agg #[.string nm,.string su,vi,.int .i64 fl,.int .i64 ld,vm],.string key,fv] W fun e w'=>e=.returned (.tuple #[.int .i64 0,.int .i64 20])∧Bw W w':=by
 have b1:=cell_of_row W b 1 _ _ _ h.hb
 simp only [List.getElem?_toArray,List.getElem?_cons_zero,List.getElem?_cons_succ] at b1
 obtain ⟨D,hD⟩:∃ D,Yy ps=D:=⟨_,rfl⟩
 have hz:Maps.has D (.string key.data.toList)=false:=by
  rw [← hD,Yy,J8 _ _ _ _ isMap_empty]
  rw [Z4] at hl
  rw [hl];rfl
 have hown:=h.map
 rw [hD] at hown
 have HOWN:Hid (∀ o,(W.alloc o).ownsMap Tryz.prog 9 (plainElem (H:=Unit) Tryz.prog 3) mb ps.length D):=fun o=>hown.alloc o
 have hkey:=Go.WideMaps.keyOf_string_mk (P:=Tryz.prog) Tryz.underlying9 hkz
 have HKEY:Hid (keyOf Tryz.prog 9 (.string key)=some (.string key.data.toList)):=hkey
 obtain ⟨kl,hkl⟩:∃ k,k=Lit.string key.data.toList:=⟨_,rfl⟩
 rw [← hkl] at HKEY hz
 have hlt:b<W.heap.size:=(Array.getElem?_eq_some_iff.1 h.hb).1
 have hlm:¬ b=W.heap.size:=by omega
 clear h hD hown hkey hkl hl
 go_enter Tryz.func53,Tryz.ntmps53
 go_wp2_with (at_lookup;refine wpList_lookup_own_ok_int _ rfl _ _ 67 rfl 9 3 .i64 law9 Tryz.underlying67 Tryz.underlying3 (Zcz _) mb ps.length D rfl (HOWN.out _) _ _ rfl HKEY.out ?_;intro cc hat hwc;clear hat hwc)
 exact bodyPost_ret (results_tmp2 rfl _ _ _) rfl ⟨rfl,(Below.refl _ _).alloc (Nat.le_refl _) _⟩
--BASE
theorem Zcv (bw bc:Nat) (N b mb:Nat) (ps:List Plc) (vp:Value) (pv:List PV) (nm su:ByteArray) (fl ld:Int) (vi vm:Value) (key:ByteArray) (hkz:key.size≤maxLen) (hnz:nm.size≤maxLen) (W:World) (h:HW W N b mb ps vp pv) (k:Nat) (q:Plc) (hl:Z4 ps key.data.toList=some k) (hq:ps[k]?=some q) (hqz:q.c.nm.size≤maxLen) (ft:Bool)
 (hF:∀ w:World,Bw W w→Calls Tryz.prog 54 #[.int .i64 (k:Int),.pointer (some ⟨bw,0,none⟩),.pointer (some ⟨bc,0,none⟩)] w fun e w'=>e=.returned (.bool ft)∧Bw w w') :
 Calls Tryz.prog 53 #[.pointer (some ⟨b,0,none⟩),.agg #[.string nm,.string su,vi,.int .i64 fl,.int .i64 ld,vm],.string key,.func (.func 54) #[] #[.pointer (some ⟨bw,0,none⟩),.pointer (some ⟨bc,0,none⟩)]] W fun e w'=>e=.returned (abvV (if ft then (if pubB q.c.fl||Xl q.c nm ld then .ok k else .error 22) else .error 23))∧Bw W w':=by
 have b1:=cell_of_row W b 1 _ _ _ h.hb
 simp only [List.getElem?_toArray,List.getElem?_cons_zero,List.getElem?_cons_succ] at b1
 obtain ⟨D,hD⟩:∃ D,Yy ps=D:=⟨_,rfl⟩
 have hz:Maps.has D (.string key.data.toList)=true:=by
  rw [← hD,Yy,J8 _ _ _ _ isMap_empty]
  rw [Z4] at hl
  rw [hl];rfl
 have hat:∀ cc:Int,D.atKey (.string key.data.toList) (.lit (.int .i64 0))=.lit (.int .i64 cc)→cc=(k:Int):=fun cc hc=>by
  rw [← hD,Yy,Zia _ _ _ _ _ isMap_empty] at hc
  rw [Z4] at hl
  rw [hl] at hc
  injection hc with h1
  injection h1 with _ h2
  exact h2.symm
 have hown:=h.map
 rw [hD] at hown
 have HOWN:Hid (∀ o,(W.alloc o).ownsMap Tryz.prog 9 (plainElem (H:=Unit) Tryz.prog 3) mb ps.length D):=fun o=>hown.alloc o
 have hkey:=Go.WideMaps.keyOf_string_mk (P:=Tryz.prog) Tryz.underlying9 hkz
 have HKEY:Hid (keyOf Tryz.prog 9 (.string key)=some (.string key.data.toList)):=hkey
 obtain ⟨kl,hkl⟩:∃ k,k=Lit.string key.data.toList:=⟨_,rfl⟩
 rw [← hkl] at HKEY hz hat
 have HAT:Hid (∀ cc:Int,D.atKey kl (.lit (.int .i64 0))=.lit (.int .i64 cc)→cc=(k:Int)):=hat
 have hlt:b<W.heap.size:=(Array.getElem?_eq_some_iff.1 h.hb).1
 have hlm:¬ b=W.heap.size:=by omega
 obtain ⟨g,cap,p,rfl,hpl,hcell⟩:=h.at hq
 have hkn:(k:Int)<(ps.length:Int):=by have:=(List.getElem?_eq_some_iff.1 hq).1;omega
 have b0:=cell_of_row W b 0 _ _ _ h.hb
 simp only [List.getElem?_toArray,List.getElem?_cons_zero] at b0
 have g0:W.cell? ⟨g,k * 8,none⟩=some (.string p.nm):=hcell 0 (by omega)
 have g1:W.cell? ⟨g,k * 8+1,none⟩=some (.string p.su):=hcell 1 (by omega)
 have g2:W.cell? ⟨g,k * 8+2,none⟩=some p.vi:=hcell 2 (by omega)
 have g3:W.cell? ⟨g,k * 8+3,none⟩=some (.int .i64 p.fl):=hcell 3 (by omega)
 have g4:W.cell? ⟨g,k * 8+4,none⟩=some (.int .i64 p.ld):=hcell 4 (by omega)
 have g5:W.cell? ⟨g,k * 8+5,none⟩=some p.vm:=hcell 5 (by omega)
 have hgl:g<W.heap.size:=World.block_lt_of_cell? W _ g0
 obtain ⟨qm,_,hoc⟩:=hpl.own
 obtain ⟨ai,ci,hvi⟩:=ownv hoc.ifs
 obtain ⟨am,cm,hvm⟩:=ownv hoc.ms
 rw [hvi] at g2
 rw [hvm] at g5
 have HF:Hid (∀ w:World,Bw W w→Calls Tryz.prog 54 #[.int .i64 (k:Int),.pointer (some ⟨bw,0,none⟩),.pointer (some ⟨bc,0,none⟩)] w fun e w'=>e=.returned (.bool ft)∧Bw w w'):=hF
 have HP:Hid (∀ w:World,Calls Tryz.prog 76 #[.agg #[.string nm,.string su,vi,.int .i64 fl,.int .i64 ld,vm]] w fun e w'=>e=.returned (.agg #[.int .i64 ld,.string ⟨(pkgL nm.data.toList).toArray⟩])∧Bw w w'):=fun w=>Yq nm su fl ld vi vm w hnz
 have HQ:Hid (∀ w:World,Calls Tryz.prog 76 #[.agg #[.string p.nm,.string p.su,.slice ai q.c.ni ci,.int .i64 p.fl,.int .i64 p.ld,.slice am qm.length cm]] w fun e w'=>e=.returned (.agg #[.int .i64 q.c.ld,.string ⟨(pkgL q.c.nm.data.toList).toArray⟩])∧Bw w w'):=fun w=>by rw [← hpl.ld,← hpl.nm];exact Yq p.nm p.su p.fl p.ld _ _ w (by rw [hpl.nm];exact hqz)
 have hfl:p.fl=q.c.fl:=hpl.fl
 rw [← hfl]
 have HS:Hid (Xl q.c nm ld=((q.c.ld == ld)&&(pkgL q.c.nm.data.toList == pkgL nm.data.toList))):=rfl
 generalize Xl q.c nm ld=sp at *
 clear h hD hown hkey hkl hl hat hpl hcell hF hq hfl hoc hvi hvm
 cases ft with
 | false =>
   go_enter Tryz.func53,Tryz.ntmps53
   go_wp2_with (first
    | (at_lookup;refine wpList_lookup_own_ok_int _ rfl _ _ 67 rfl 9 3 .i64 law9 Tryz.underlying67 Tryz.underlying3 (Zcz _) mb ps.length D rfl (HOWN.out _) _ _ rfl HKEY.out ?_;intro cc hat hwc;obtain rfl:=HAT.out cc hat;clear hat hwc)
    | (go_at_call 54;refine (HF.out _ ((Below.refl _ _).alloc (Nat.le_refl _) _)).mono ?_;rintro e w1 ⟨rfl,hb⟩;have B1:Hid (Bw W w1):=Zj ((Below.refl _ _).alloc (Nat.le_refl _) _) hb;clear hb HF))
   exact bodyPost_ret (results_tmp2 rfl _ _ _) rfl ⟨rfl,B1.out⟩
 | true =>
   obtain ⟨R,hR⟩:∃ R,R=abvV (if pubB p.fl||sp then .ok k else .error 22):=⟨_,rfl⟩
   simp only [if_true]
   rw [← hR]
   have HR:Hid (R=abvV (if pubB p.fl||sp then .ok k else .error 22)):=hR
   clear hR
   go_enter Tryz.func53,Tryz.ntmps53
   go_wp2_with (first
    | (at_lookup;refine wpList_lookup_own_ok_int _ rfl _ _ 67 rfl 9 3 .i64 law9 Tryz.underlying67 Tryz.underlying3 (Zcz _) mb ps.length D rfl (HOWN.out _) _ _ rfl HKEY.out ?_;intro cc hat hwc;obtain rfl:=HAT.out cc hat;clear hat hwc)
    | (go_at_call 54;(refine (HF.out _ ((Below.refl _ _).alloc (Nat.le_refl _) _)).mono ?_;rintro e w1 ⟨rfl,hb⟩;have B1:Hid (Bw W w1):=Zj ((Below.refl _ _).alloc (Nat.le_refl _) _) hb;have bb:=B1.out;have b0:=(bb.cell (p:=⟨b,0,none⟩) hlt).trans b0;have g0:=(bb.cell (p:=⟨g,k * 8,none⟩) hgl).trans g0;have g1:=(bb.cell (p:=⟨g,k * 8+1,none⟩) hgl).trans g1;have g2:=(bb.cell (p:=⟨g,k * 8+2,none⟩) hgl).trans g2;have g3:=(bb.cell (p:=⟨g,k * 8+3,none⟩) hgl).trans g3;have g4:=(bb.cell (p:=⟨g,k * 8+4,none⟩) hgl).trans g4;have g5:=(bb.cell (p:=⟨g,k * 8+5,none⟩) hgl).trans g5;have hl1:b<w1.heap.size:=Nat.lt_of_lt_of_le hlt bb.size;have hg1:g<w1.heap.size:=Nat.lt_of_lt_of_le hgl bb.size;have hcw:=(hb.block W.heap.size (by simp)).trans (Xt W _);have HCW:Hid (w1.heap[W.heap.size]?=some (.cells #[.string nm,.string su,vi,.int .i64 fl,.int .i64 ld,vm] 33 (0,0))):=hcw;clear hb HF bb hcw)))
   obtain ⟨Wm,hWm⟩:∃ x,x=w1.alloc (.cells #[.string p.nm,.string p.su,.slice ai q.c.ni ci,.int .i64 p.fl,.int .i64 p.ld,.slice am qm.length cm] 33):=⟨_,rfl⟩
   have BM:Hid (Bw w1 Wm):=by rw [hWm];exact (Below.refl _ _).alloc (Nat.le_refl _) _
   have hm0:Wm.heap[w1.heap.size]?=some (.cells #[.string p.nm,.string p.su,.slice ai q.c.ni ci,.int .i64 p.fl,.int .i64 p.ld,.slice am qm.length cm] 33 (0,0)):=by rw [hWm];exact Xt _ _
   have hWl:W.heap.size<w1.heap.size:=(Array.getElem?_eq_some_iff.1 HCW.out).1
   have hm1:=(BM.out.block W.heap.size hWl).trans HCW.out
   have hsm:w1.heap.size<Wm.heap.size:=by rw [hWm];simp
   have hsW:W.heap.size<Wm.heap.size:=by omega
   rw [← hWm]
   have m0:=cell_of_row Wm w1.heap.size 0 _ _ _ hm0
   have m1:=cell_of_row Wm w1.heap.size 1 _ _ _ hm0
   have m2:=cell_of_row Wm w1.heap.size 2 _ _ _ hm0
   have m3:=cell_of_row Wm w1.heap.size 3 _ _ _ hm0
   have m4:=cell_of_row Wm w1.heap.size 4 _ _ _ hm0
   have m5:=cell_of_row Wm w1.heap.size 5 _ _ _ hm0
   have n0:=cell_of_row Wm W.heap.size 0 _ _ _ hm1
   have n1:=cell_of_row Wm W.heap.size 1 _ _ _ hm1
   have n2:=cell_of_row Wm W.heap.size 2 _ _ _ hm1
   have n3:=cell_of_row Wm W.heap.size 3 _ _ _ hm1
   have n4:=cell_of_row Wm W.heap.size 4 _ _ _ hm1
   have n5:=cell_of_row Wm W.heap.size 5 _ _ _ hm1
   simp only [List.getElem?_toArray,List.getElem?_cons_zero,List.getElem?_cons_succ] at m0 m1 m2 m3 m4 m5 n0 n1 n2 n3 n4 n5
   have BB:Hid (Bw W Wm):=Zj B1.out BM.out
   have hsz1:W.heap.size≤Wm.heap.size:=by omega
   clear b0 b1 g0 g1 g2 g3 g4 g5 hm0 hm1 HCW HOWN HKEY HAT hl1 hg1 B1 BM hWm hlt hlm hgl
   have PB:Hid (pubB p.fl=(bits .and .i64 p.fl 1 != 0)):=rfl
   generalize pubB p.fl=pb at *
   cases pb with
   | true =>
     have h0:(bits .and .i64 p.fl 1 == 0)=false:=by have:=PB.out;rw [bne] at this;cases e:(bits .and .i64 p.fl 1 == 0) with
      | true=>rw [e] at this;cases this
      | false=>rfl
     have h01:¬ bits .and .i64 p.fl 1=0:=by simpa using h0
     clear PB HP HQ HS
     go_quiet ((fail))
     go_wp2
     exact bodyPost_ret (results_tmp2 rfl _ _ _) rfl ⟨by rw [HR.out];rfl,below_drewN BB.out _⟩
   | false =>
     have h0:bits .and .i64 p.fl 1=0:=by have:=PB.out;simpa [bne] using this.symm
     have S0:Hid (sp=((q.c.ld == ld)&&(pkgL q.c.nm.data.toList == pkgL nm.data.toList))):=HS
     clear PB HS
     by_cases hld:q.c.ld=ld
     ·by_cases hpk:pkgL q.c.nm.data.toList=pkgL nm.data.toList
      ·have hsp:sp=true:=by rw [S0.out,hld,hpk];simp
       rw [hld,hpk] at HQ
       clear hld hpk S0
       generalize (⟨(pkgL nm.data.toList).toArray⟩:ByteArray)=s1 at *
       go_region_held3 (fun w'=>w'.cell? ⟨w1.heap.size,0,none⟩=some (.string p.nm)∧w'.cell? ⟨w1.heap.size,1,none⟩=some (.string p.su)∧w'.cell? ⟨w1.heap.size,2,none⟩=some (.slice ai q.c.ni ci)∧w'.cell? ⟨w1.heap.size,3,none⟩=some (.int .i64 p.fl)∧w'.cell? ⟨w1.heap.size,4,none⟩=some (.int .i64 p.ld)∧w'.cell? ⟨w1.heap.size,5,none⟩=some (.slice am qm.length cm)∧w'.cell? ⟨W.heap.size,0,none⟩=some (.string nm)∧w'.cell? ⟨W.heap.size,1,none⟩=some (.string su)∧w'.cell? ⟨W.heap.size,2,none⟩=some vi∧w'.cell? ⟨W.heap.size,3,none⟩=some (.int .i64 fl)∧w'.cell? ⟨W.heap.size,4,none⟩=some (.int .i64 ld)∧w'.cell? ⟨W.heap.size,5,none⟩=some vm) (go_keep)
        (first
         | (go_at_call 76;refine (HQ.out _).mono ?_;rintro e w2 ⟨rfl,hb2⟩;have B2:Hid (Bw W w2):=Zj BB.out.drew hb2;have kp:∀ (bb j:Nat) (v:Value),bb<Wm.heap.size→Wm.cell? ⟨bb,j,none⟩=some v→w2.cell? ⟨bb,j,none⟩=some v:=fun bb j v hl h=>(hb2.cell (p:=⟨bb,j,none⟩) hl).trans h;replace m0:=kp _ _ _ hsm m0;replace m1:=kp _ _ _ hsm m1;replace m2:=kp _ _ _ hsm m2;replace m3:=kp _ _ _ hsm m3;replace m4:=kp _ _ _ hsm m4;replace m5:=kp _ _ _ hsm m5;replace n0:=kp _ _ _ hsW n0;replace n1:=kp _ _ _ hsW n1;replace n2:=kp _ _ _ hsW n2;replace n3:=kp _ _ _ hsW n3;replace n4:=kp _ _ _ hsW n4;replace n5:=kp _ _ _ hsW n5;have hs2:Wm.heap.size≤w2.heap.size:=hb2.size;replace hsm:w1.heap.size<w2.heap.size:=Nat.lt_of_lt_of_le hsm hs2;replace hsW:W.heap.size<w2.heap.size:=Nat.lt_of_lt_of_le hsW hs2;clear kp hb2 HQ)
         | (go_at_call 76;refine (HP.out _).mono ?_;rintro e w3 ⟨rfl,hb3⟩;have B3:Hid (Bw W w3):=Zj B2.out hb3;have kp:∀ (bb j:Nat) (v:Value),bb<w2.heap.size→w2.cell? ⟨bb,j,none⟩=some v→w3.cell? ⟨bb,j,none⟩=some v:=fun bb j v hl h=>(hb3.cell (p:=⟨bb,j,none⟩) hl).trans h;replace m0:=kp _ _ _ hsm m0;replace m1:=kp _ _ _ hsm m1;replace m2:=kp _ _ _ hsm m2;replace m3:=kp _ _ _ hsm m3;replace m4:=kp _ _ _ hsm m4;replace m5:=kp _ _ _ hsm m5;replace n0:=kp _ _ _ hsW n0;replace n1:=kp _ _ _ hsW n1;replace n2:=kp _ _ _ hsW n2;replace n3:=kp _ _ _ hsW n3;replace n4:=kp _ _ _ hsW n4;replace n5:=kp _ _ _ hsW n5;clear kp hb3 HP))
       go_wp2
       refine bodyPost_ret (results_tmp2 rfl _ _ _) rfl ⟨by rw [HR.out,hsp];rfl,B3.out⟩
      ·have hsp:sp=false:=by rw [S0.out];simp [hpk]
       have hs12:¬ (⟨(pkgL q.c.nm.data.toList).toArray⟩:ByteArray)=⟨(pkgL nm.data.toList).toArray⟩:=fun e=>hpk (by injection e with e;simpa using e)
       have hs13:∀ x:List UInt8,(⟨x.toArray⟩:ByteArray).toList=x:=fun x=>by rw [Lib.toList_data]
       have hs14:¬ (⟨(pkgL q.c.nm.data.toList).toArray⟩:ByteArray).toList=(⟨(pkgL nm.data.toList).toArray⟩:ByteArray).toList:=by rw [hs13,hs13];exact hpk
       clear hs13
       rw [hld] at HQ
       clear hld hpk S0
       generalize (⟨(pkgL nm.data.toList).toArray⟩:ByteArray)=s1 at *
       generalize (⟨(pkgL q.c.nm.data.toList).toArray⟩:ByteArray)=s2 at *
       go_region_held3 (fun w'=>w'.cell? ⟨w1.heap.size,0,none⟩=some (.string p.nm)∧w'.cell? ⟨w1.heap.size,1,none⟩=some (.string p.su)∧w'.cell? ⟨w1.heap.size,2,none⟩=some (.slice ai q.c.ni ci)∧w'.cell? ⟨w1.heap.size,3,none⟩=some (.int .i64 p.fl)∧w'.cell? ⟨w1.heap.size,4,none⟩=some (.int .i64 p.ld)∧w'.cell? ⟨w1.heap.size,5,none⟩=some (.slice am qm.length cm)∧w'.cell? ⟨W.heap.size,0,none⟩=some (.string nm)∧w'.cell? ⟨W.heap.size,1,none⟩=some (.string su)∧w'.cell? ⟨W.heap.size,2,none⟩=some vi∧w'.cell? ⟨W.heap.size,3,none⟩=some (.int .i64 fl)∧w'.cell? ⟨W.heap.size,4,none⟩=some (.int .i64 ld)∧w'.cell? ⟨W.heap.size,5,none⟩=some vm) (go_keep)
        (first
         | (go_at_call 76;refine (HQ.out _).mono ?_;rintro e w2 ⟨rfl,hb2⟩;have B2:Hid (Bw W w2):=Zj BB.out.drew hb2;have kp:∀ (bb j:Nat) (v:Value),bb<Wm.heap.size→Wm.cell? ⟨bb,j,none⟩=some v→w2.cell? ⟨bb,j,none⟩=some v:=fun bb j v hl h=>(hb2.cell (p:=⟨bb,j,none⟩) hl).trans h;replace m0:=kp _ _ _ hsm m0;replace m1:=kp _ _ _ hsm m1;replace m2:=kp _ _ _ hsm m2;replace m3:=kp _ _ _ hsm m3;replace m4:=kp _ _ _ hsm m4;replace m5:=kp _ _ _ hsm m5;replace n0:=kp _ _ _ hsW n0;replace n1:=kp _ _ _ hsW n1;replace n2:=kp _ _ _ hsW n2;replace n3:=kp _ _ _ hsW n3;replace n4:=kp _ _ _ hsW n4;replace n5:=kp _ _ _ hsW n5;have hs2:Wm.heap.size≤w2.heap.size:=hb2.size;replace hsm:w1.heap.size<w2.heap.size:=Nat.lt_of_lt_of_le hsm hs2;replace hsW:W.heap.size<w2.heap.size:=Nat.lt_of_lt_of_le hsW hs2;clear kp hb2 HQ)
         | (go_at_call 76;refine (HP.out _).mono ?_;rintro e w3 ⟨rfl,hb3⟩;have B3:Hid (Bw W w3):=Zj B2.out hb3;have kp:∀ (bb j:Nat) (v:Value),bb<w2.heap.size→w2.cell? ⟨bb,j,none⟩=some v→w3.cell? ⟨bb,j,none⟩=some v:=fun bb j v hl h=>(hb3.cell (p:=⟨bb,j,none⟩) hl).trans h;replace m0:=kp _ _ _ hsm m0;replace m1:=kp _ _ _ hsm m1;replace m2:=kp _ _ _ hsm m2;replace m3:=kp _ _ _ hsm m3;replace m4:=kp _ _ _ hsm m4;replace m5:=kp _ _ _ hsm m5;replace n0:=kp _ _ _ hsW n0;replace n1:=kp _ _ _ hsW n1;replace n2:=kp _ _ _ hsW n2;replace n3:=kp _ _ _ hsW n3;replace n4:=kp _ _ _ hsW n4;replace n5:=kp _ _ _ hsW n5;clear kp hb3 HP))
       go_wp2
       refine bodyPost_ret (results_tmp2 rfl _ _ _) rfl ⟨by rw [HR.out,hsp];rfl,B3.out⟩
     ·have hsp:sp=false:=by rw [S0.out];simp [hld]
      generalize (⟨(pkgL nm.data.toList).toArray⟩:ByteArray)=s1 at *
      generalize (⟨(pkgL q.c.nm.data.toList).toArray⟩:ByteArray)=s2 at *
      clear S0
      go_region_held3 (fun w'=>w'.cell? ⟨w1.heap.size,0,none⟩=some (.string p.nm)∧w'.cell? ⟨w1.heap.size,1,none⟩=some (.string p.su)∧w'.cell? ⟨w1.heap.size,2,none⟩=some (.slice ai q.c.ni ci)∧w'.cell? ⟨w1.heap.size,3,none⟩=some (.int .i64 p.fl)∧w'.cell? ⟨w1.heap.size,4,none⟩=some (.int .i64 p.ld)∧w'.cell? ⟨w1.heap.size,5,none⟩=some (.slice am qm.length cm)∧w'.cell? ⟨W.heap.size,0,none⟩=some (.string nm)∧w'.cell? ⟨W.heap.size,1,none⟩=some (.string su)∧w'.cell? ⟨W.heap.size,2,none⟩=some vi∧w'.cell? ⟨W.heap.size,3,none⟩=some (.int .i64 fl)∧w'.cell? ⟨W.heap.size,4,none⟩=some (.int .i64 ld)∧w'.cell? ⟨W.heap.size,5,none⟩=some vm) (go_keep)
       (first
        | (go_at_call 76;refine (HQ.out _).mono ?_;rintro e w2 ⟨rfl,hb2⟩;have B2:Hid (Bw W w2):=Zj BB.out.drew hb2;have kp:∀ (bb j:Nat) (v:Value),bb<Wm.heap.size→Wm.cell? ⟨bb,j,none⟩=some v→w2.cell? ⟨bb,j,none⟩=some v:=fun bb j v hl h=>(hb2.cell (p:=⟨bb,j,none⟩) hl).trans h;replace m0:=kp _ _ _ hsm m0;replace m1:=kp _ _ _ hsm m1;replace m2:=kp _ _ _ hsm m2;replace m3:=kp _ _ _ hsm m3;replace m4:=kp _ _ _ hsm m4;replace m5:=kp _ _ _ hsm m5;replace n0:=kp _ _ _ hsW n0;replace n1:=kp _ _ _ hsW n1;replace n2:=kp _ _ _ hsW n2;replace n3:=kp _ _ _ hsW n3;replace n4:=kp _ _ _ hsW n4;replace n5:=kp _ _ _ hsW n5;have hs2:Wm.heap.size≤w2.heap.size:=hb2.size;replace hsm:w1.heap.size<w2.heap.size:=Nat.lt_of_lt_of_le hsm hs2;replace hsW:W.heap.size<w2.heap.size:=Nat.lt_of_lt_of_le hsW hs2;clear kp hb2 HQ)
        | (go_at_call 76;refine (HP.out _).mono ?_;rintro e w3 ⟨rfl,hb3⟩;have B3:Hid (Bw W w3):=Zj B2.out hb3;have kp:∀ (bb j:Nat) (v:Value),bb<w2.heap.size→w2.cell? ⟨bb,j,none⟩=some v→w3.cell? ⟨bb,j,none⟩=some v:=fun bb j v hl h=>(hb3.cell (p:=⟨bb,j,none⟩) hl).trans h;replace m0:=kp _ _ _ hsm m0;replace m1:=kp _ _ _ hsm m1;replace m2:=kp _ _ _ hsm m2;replace m3:=kp _ _ _ hsm m3;replace m4:=kp _ _ _ hsm m4;replace m5:=kp _ _ _ hsm m5;replace n0:=kp _ _ _ hsW n0;replace n1:=kp _ _ _ hsW n1;replace n2:=kp _ _ _ hsW n2;replace n3:=kp _ _ _ hsW n3;replace n4:=kp _ _ _ hsW n4;replace n5:=kp _ _ _ hsW n5;clear kp hb3 HP))
      go_wp2
      refine bodyPost_ret (results_tmp2 rfl _ _ _) rfl ⟨by rw [HR.out,hsp];rfl,B3.out⟩
def fitS (fl:Int) (k:Nat) (q:Plc):Bool:=!ifB q.c.fl&&(decide (k=0)||!ifB fl)
def fitI (_:Nat) (q:Plc):Bool:=ifB q.c.fl
theorem Xa {ps:List Plc} {key:List UInt8} {k:Nat} (h:Z4 ps key=some k):∃ q,ps[k]?=some q∧Qe q=key:=by
 obtain ⟨_,q,h1,h2⟩:=look_lt key ps 0 k h
 exact ⟨q,by simpa using h1,h2⟩
theorem abv_two (x:Except Int Nat):∃ r1 r2:Int,abvV x=.tuple #[.int .i64 r1,.int .i64 r2]:=by cases x <;> exact ⟨_,_,rfl⟩
theorem Zcu (N b mb:Nat) (ps:List Plc) (vp:Value) (pv:List PV) (nm su:ByteArray) (fl ld:Int) (ai am:Option Addr) (ni ci nn cm:Nat) (W:World) (h:HW W N b mb ps vp pv) (hsz:su.size≤maxLen) (hnz:nm.size≤maxLen) (hqz:∀ q∈ps,q.c.nm.size≤maxLen) :
 Calls Tryz.prog 29 #[.pointer (some ⟨b,0,none⟩),.agg #[.string nm,.string su,.slice ai ni ci,.int .i64 fl,.int .i64 ld,.slice am nn cm]] W fun e w'=>e=.returned (abvV (Zv ps nm ld (fitS fl) su.data.toList))∧Bw W w':=by
 obtain ⟨r1,r2,hR⟩:=abv_two (Zv ps nm ld (fitS fl) su.data.toList)
 rw [hR]
 have hB2:Bw W ((W.alloc (.cells #[.pointer (some ⟨b,0,none⟩)] 24)).alloc (.cells #[.string nm,.string su,.slice ai ni ci,.int .i64 fl,.int .i64 ld,.slice am nn cm] 33)):=((Below.refl _ _).alloc (Nat.le_refl _) _).alloc (by simp) _
 have HA:Hid (Calls Tryz.prog 53 #[.pointer (some ⟨b,0,none⟩),.agg #[.string nm,.string su,.slice ai ni ci,.int .i64 fl,.int .i64 ld,.slice am nn cm],.string su,.func (.func 54) #[] #[.pointer (some ⟨W.heap.size,0,none⟩),.pointer (some ⟨W.heap.size+1,0,none⟩)]] ((W.alloc (.cells #[.pointer (some ⟨b,0,none⟩)] 24)).alloc (.cells #[.string nm,.string su,.slice ai ni ci,.int .i64 fl,.int .i64 ld,.slice am nn cm] 33)) fun e w'=>e=.returned (.tuple #[.int .i64 r1,.int .i64 r2])∧Bw W w'):=by
  have h0:=heap_alloc2_old W (.cells #[.pointer (some ⟨b,0,none⟩)] 24) (.cells #[.string nm,.string su,.slice ai ni ci,.int .i64 fl,.int .i64 ld,.slice am nn cm] 33)
  have h1:=heap_alloc2_new W (.cells #[.pointer (some ⟨b,0,none⟩)] 24) (.cells #[.string nm,.string su,.slice ai ni ci,.int .i64 fl,.int .i64 ld,.slice am nn cm] 33)
  have hz:((W.alloc (.cells #[.pointer (some ⟨b,0,none⟩)] 24)).alloc (.cells #[.string nm,.string su,.slice ai ni ci,.int .i64 fl,.int .i64 ld,.slice am nn cm] 33)).heap.size=W.heap.size+2:=by simp
  have hHW:=h.below hB2
  generalize (W.alloc (.cells #[.pointer (some ⟨b,0,none⟩)] 24)).alloc (.cells #[.string nm,.string su,.slice ai ni ci,.int .i64 fl,.int .i64 ld,.slice am nn cm] 33)=W2 at *
  cases hl:Z4 ps su.data.toList with
  | none =>
    refine (Qa _ N b mb ps vp pv nm su fl ld _ _ su hsz W2 hHW hl).mono ?_
    rintro e w' ⟨rfl,hb⟩
    exact ⟨by rw [← hR,Zv,hl];rfl,Zj hB2 hb⟩
  | some k =>
    obtain ⟨q,hq,_⟩:=Xa hl
    refine (Zcv W.heap.size (W.heap.size+1) N b mb ps vp pv nm su fl ld _ _ su hsz hnz W2 hHW k q hl hq (hqz q (List.mem_of_getElem? hq)) (fitS fl k q) (fun w hb=>?_)).mono ?_
    ·refine fits_any N b mb W.heap.size (W.heap.size+1) ps vp pv k q nm su fl ld _ _ w (hHW.below hb) hq ((hb.block _ (by rw [hz];omega)).trans h0) ((hb.block _ (by rw [hz];omega)).trans h1)
    ·rintro e w' ⟨rfl,hb⟩
     exact ⟨by rw [← hR,Zv,hl];simp only [hq],Zj hB2 hb⟩
 clear h hB2 hR
 go_enter Tryz.func29,Tryz.ntmps29
 go_wp2_with (go_at_call 53;refine HA.out.mono ?_;rintro e w1 ⟨rfl,hb⟩;have B1:Hid (Bw W w1):=hb;clear hb)
 exact bodyPost_ret (results_tmp2 rfl _ _ _) rfl ⟨rfl,B1.out⟩
theorem Zcw (N b mb:Nat) (ps:List Plc) (vp:Value) (pv:List PV) (nm su:ByteArray) (fl ld:Int) (vi vm:Value) (key:ByteArray) (hkz:key.size≤maxLen) (hnz:nm.size≤maxLen) (W:World) (h:HW W N b mb ps vp pv) (k:Nat) (q:Plc) (hl:Z4 ps key.data.toList=some k) (hq:ps[k]?=some q) (hqz:q.c.nm.size≤maxLen) (ft:Bool)
 (hF:∀ w:World,Bw W w→Calls Tryz.prog 55 #[.pointer (some ⟨b,0,none⟩),.int .i64 (k:Int)] w fun e w'=>e=.returned (.bool ft)∧Bw w w') :
 Calls Tryz.prog 53 #[.pointer (some ⟨b,0,none⟩),.agg #[.string nm,.string su,vi,.int .i64 fl,.int .i64 ld,vm],.string key,.func (.func 55) #[.pointer (some ⟨b,0,none⟩)] #[]] W fun e w'=>e=.returned (abvV (if ft then (if pubB q.c.fl||Xl q.c nm ld then .ok k else .error 22) else .error 23))∧Bw W w':=by
 have b1:=cell_of_row W b 1 _ _ _ h.hb
 simp only [List.getElem?_toArray,List.getElem?_cons_zero,List.getElem?_cons_succ] at b1
 obtain ⟨D,hD⟩:∃ D,Yy ps=D:=⟨_,rfl⟩
 have hz:Maps.has D (.string key.data.toList)=true:=by
  rw [← hD,Yy,J8 _ _ _ _ isMap_empty]
  rw [Z4] at hl
  rw [hl];rfl
 have hat:∀ cc:Int,D.atKey (.string key.data.toList) (.lit (.int .i64 0))=.lit (.int .i64 cc)→cc=(k:Int):=fun cc hc=>by
  rw [← hD,Yy,Zia _ _ _ _ _ isMap_empty] at hc
  rw [Z4] at hl
  rw [hl] at hc
  injection hc with h1
  injection h1 with _ h2
  exact h2.symm
 have hown:=h.map
 rw [hD] at hown
 have HOWN:Hid (∀ o,(W.alloc o).ownsMap Tryz.prog 9 (plainElem (H:=Unit) Tryz.prog 3) mb ps.length D):=fun o=>hown.alloc o
 have hkey:=Go.WideMaps.keyOf_string_mk (P:=Tryz.prog) Tryz.underlying9 hkz
 have HKEY:Hid (keyOf Tryz.prog 9 (.string key)=some (.string key.data.toList)):=hkey
 obtain ⟨kl,hkl⟩:∃ k,k=Lit.string key.data.toList:=⟨_,rfl⟩
 rw [← hkl] at HKEY hz hat
 have HAT:Hid (∀ cc:Int,D.atKey kl (.lit (.int .i64 0))=.lit (.int .i64 cc)→cc=(k:Int)):=hat
 have hlt:b<W.heap.size:=(Array.getElem?_eq_some_iff.1 h.hb).1
 have hlm:¬ b=W.heap.size:=by omega
 obtain ⟨g,cap,p,rfl,hpl,hcell⟩:=h.at hq
 have hkn:(k:Int)<(ps.length:Int):=by have:=(List.getElem?_eq_some_iff.1 hq).1;omega
 have b0:=cell_of_row W b 0 _ _ _ h.hb
 simp only [List.getElem?_toArray,List.getElem?_cons_zero] at b0
 have g0:W.cell? ⟨g,k * 8,none⟩=some (.string p.nm):=hcell 0 (by omega)
 have g1:W.cell? ⟨g,k * 8+1,none⟩=some (.string p.su):=hcell 1 (by omega)
 have g2:W.cell? ⟨g,k * 8+2,none⟩=some p.vi:=hcell 2 (by omega)
 have g3:W.cell? ⟨g,k * 8+3,none⟩=some (.int .i64 p.fl):=hcell 3 (by omega)
 have g4:W.cell? ⟨g,k * 8+4,none⟩=some (.int .i64 p.ld):=hcell 4 (by omega)
 have g5:W.cell? ⟨g,k * 8+5,none⟩=some p.vm:=hcell 5 (by omega)
 have hgl:g<W.heap.size:=World.block_lt_of_cell? W _ g0
 obtain ⟨qm,_,hoc⟩:=hpl.own
 obtain ⟨ai,ci,hvi⟩:=ownv hoc.ifs
 obtain ⟨am,cm,hvm⟩:=ownv hoc.ms
 rw [hvi] at g2
 rw [hvm] at g5
 have HF:Hid (∀ w:World,Bw W w→Calls Tryz.prog 55 #[.pointer (some ⟨b,0,none⟩),.int .i64 (k:Int)] w fun e w'=>e=.returned (.bool ft)∧Bw w w'):=hF
 have HP:Hid (∀ w:World,Calls Tryz.prog 76 #[.agg #[.string nm,.string su,vi,.int .i64 fl,.int .i64 ld,vm]] w fun e w'=>e=.returned (.agg #[.int .i64 ld,.string ⟨(pkgL nm.data.toList).toArray⟩])∧Bw w w'):=fun w=>Yq nm su fl ld vi vm w hnz
 have HQ:Hid (∀ w:World,Calls Tryz.prog 76 #[.agg #[.string p.nm,.string p.su,.slice ai q.c.ni ci,.int .i64 p.fl,.int .i64 p.ld,.slice am qm.length cm]] w fun e w'=>e=.returned (.agg #[.int .i64 q.c.ld,.string ⟨(pkgL q.c.nm.data.toList).toArray⟩])∧Bw w w'):=fun w=>by rw [← hpl.ld,← hpl.nm];exact Yq p.nm p.su p.fl p.ld _ _ w (by rw [hpl.nm];exact hqz)
 have hfl:p.fl=q.c.fl:=hpl.fl
 rw [← hfl]
 have HS:Hid (Xl q.c nm ld=((q.c.ld == ld)&&(pkgL q.c.nm.data.toList == pkgL nm.data.toList))):=rfl
 generalize Xl q.c nm ld=sp at *
 clear h hD hown hkey hkl hl hat hpl hcell hF hq hfl hoc hvi hvm
 cases ft with
 | false =>
   go_enter Tryz.func53,Tryz.ntmps53
   go_wp2_with (first
    | (at_lookup;refine wpList_lookup_own_ok_int _ rfl _ _ 67 rfl 9 3 .i64 law9 Tryz.underlying67 Tryz.underlying3 (Zcz _) mb ps.length D rfl (HOWN.out _) _ _ rfl HKEY.out ?_;intro cc hat hwc;obtain rfl:=HAT.out cc hat;clear hat hwc)
    | (go_at_call 55;refine (HF.out _ ((Below.refl _ _).alloc (Nat.le_refl _) _)).mono ?_;rintro e w1 ⟨rfl,hb⟩;have B1:Hid (Bw W w1):=Zj ((Below.refl _ _).alloc (Nat.le_refl _) _) hb;clear hb HF))
   exact bodyPost_ret (results_tmp2 rfl _ _ _) rfl ⟨rfl,B1.out⟩
 | true =>
   obtain ⟨R,hR⟩:∃ R,R=abvV (if pubB p.fl||sp then .ok k else .error 22):=⟨_,rfl⟩
   simp only [if_true]
   rw [← hR]
   have HR:Hid (R=abvV (if pubB p.fl||sp then .ok k else .error 22)):=hR
   clear hR
   go_enter Tryz.func53,Tryz.ntmps53
   go_wp2_with (first
    | (at_lookup;refine wpList_lookup_own_ok_int _ rfl _ _ 67 rfl 9 3 .i64 law9 Tryz.underlying67 Tryz.underlying3 (Zcz _) mb ps.length D rfl (HOWN.out _) _ _ rfl HKEY.out ?_;intro cc hat hwc;obtain rfl:=HAT.out cc hat;clear hat hwc)
    | (go_at_call 55;(refine (HF.out _ ((Below.refl _ _).alloc (Nat.le_refl _) _)).mono ?_;rintro e w1 ⟨rfl,hb⟩;have B1:Hid (Bw W w1):=Zj ((Below.refl _ _).alloc (Nat.le_refl _) _) hb;have bb:=B1.out;have b0:=(bb.cell (p:=⟨b,0,none⟩) hlt).trans b0;have g0:=(bb.cell (p:=⟨g,k * 8,none⟩) hgl).trans g0;have g1:=(bb.cell (p:=⟨g,k * 8+1,none⟩) hgl).trans g1;have g2:=(bb.cell (p:=⟨g,k * 8+2,none⟩) hgl).trans g2;have g3:=(bb.cell (p:=⟨g,k * 8+3,none⟩) hgl).trans g3;have g4:=(bb.cell (p:=⟨g,k * 8+4,none⟩) hgl).trans g4;have g5:=(bb.cell (p:=⟨g,k * 8+5,none⟩) hgl).trans g5;have hl1:b<w1.heap.size:=Nat.lt_of_lt_of_le hlt bb.size;have hg1:g<w1.heap.size:=Nat.lt_of_lt_of_le hgl bb.size;have hcw:=(hb.block W.heap.size (by simp)).trans (Xt W _);have HCW:Hid (w1.heap[W.heap.size]?=some (.cells #[.string nm,.string su,vi,.int .i64 fl,.int .i64 ld,vm] 33 (0,0))):=hcw;clear hb HF bb hcw)))
   obtain ⟨Wm,hWm⟩:∃ x,x=w1.alloc (.cells #[.string p.nm,.string p.su,.slice ai q.c.ni ci,.int .i64 p.fl,.int .i64 p.ld,.slice am qm.length cm] 33):=⟨_,rfl⟩
   have BM:Hid (Bw w1 Wm):=by rw [hWm];exact (Below.refl _ _).alloc (Nat.le_refl _) _
   have hm0:Wm.heap[w1.heap.size]?=some (.cells #[.string p.nm,.string p.su,.slice ai q.c.ni ci,.int .i64 p.fl,.int .i64 p.ld,.slice am qm.length cm] 33 (0,0)):=by rw [hWm];exact Xt _ _
   have hWl:W.heap.size<w1.heap.size:=(Array.getElem?_eq_some_iff.1 HCW.out).1
   have hm1:=(BM.out.block W.heap.size hWl).trans HCW.out
   have hsm:w1.heap.size<Wm.heap.size:=by rw [hWm];simp
   have hsW:W.heap.size<Wm.heap.size:=by omega
   rw [← hWm]
   have m0:=cell_of_row Wm w1.heap.size 0 _ _ _ hm0
   have m1:=cell_of_row Wm w1.heap.size 1 _ _ _ hm0
   have m2:=cell_of_row Wm w1.heap.size 2 _ _ _ hm0
   have m3:=cell_of_row Wm w1.heap.size 3 _ _ _ hm0
   have m4:=cell_of_row Wm w1.heap.size 4 _ _ _ hm0
   have m5:=cell_of_row Wm w1.heap.size 5 _ _ _ hm0
   have n0:=cell_of_row Wm W.heap.size 0 _ _ _ hm1
   have n1:=cell_of_row Wm W.heap.size 1 _ _ _ hm1
   have n2:=cell_of_row Wm W.heap.size 2 _ _ _ hm1
   have n3:=cell_of_row Wm W.heap.size 3 _ _ _ hm1
   have n4:=cell_of_row Wm W.heap.size 4 _ _ _ hm1
   have n5:=cell_of_row Wm W.heap.size 5 _ _ _ hm1
   simp only [List.getElem?_toArray,List.getElem?_cons_zero,List.getElem?_cons_succ] at m0 m1 m2 m3 m4 m5 n0 n1 n2 n3 n4 n5
   have BB:Hid (Bw W Wm):=Zj B1.out BM.out
   have hsz1:W.heap.size≤Wm.heap.size:=by omega
   clear b0 b1 g0 g1 g2 g3 g4 g5 hm0 hm1 HCW HOWN HKEY HAT hl1 hg1 B1 BM hWm hlt hlm hgl
   have PB:Hid (pubB p.fl=(bits .and .i64 p.fl 1 != 0)):=rfl
   generalize pubB p.fl=pb at *
   cases pb with
   | true =>
     have h0:(bits .and .i64 p.fl 1 == 0)=false:=by have:=PB.out;rw [bne] at this;cases e:(bits .and .i64 p.fl 1 == 0) with
      | true=>rw [e] at this;cases this
      | false=>rfl
     have h01:¬ bits .and .i64 p.fl 1=0:=by simpa using h0
     clear PB HP HQ HS
     go_quiet ((fail))
     go_wp2
     exact bodyPost_ret (results_tmp2 rfl _ _ _) rfl ⟨by rw [HR.out];rfl,below_drewN BB.out _⟩
   | false =>
     have h0:bits .and .i64 p.fl 1=0:=by have:=PB.out;simpa [bne] using this.symm
     have S0:Hid (sp=((q.c.ld == ld)&&(pkgL q.c.nm.data.toList == pkgL nm.data.toList))):=HS
     clear PB HS
     by_cases hld:q.c.ld=ld
     ·by_cases hpk:pkgL q.c.nm.data.toList=pkgL nm.data.toList
      ·have hsp:sp=true:=by rw [S0.out,hld,hpk];simp
       rw [hld,hpk] at HQ
       clear hld hpk S0
       generalize (⟨(pkgL nm.data.toList).toArray⟩:ByteArray)=s1 at *
       go_region_held3 (fun w'=>w'.cell? ⟨w1.heap.size,0,none⟩=some (.string p.nm)∧w'.cell? ⟨w1.heap.size,1,none⟩=some (.string p.su)∧w'.cell? ⟨w1.heap.size,2,none⟩=some (.slice ai q.c.ni ci)∧w'.cell? ⟨w1.heap.size,3,none⟩=some (.int .i64 p.fl)∧w'.cell? ⟨w1.heap.size,4,none⟩=some (.int .i64 p.ld)∧w'.cell? ⟨w1.heap.size,5,none⟩=some (.slice am qm.length cm)∧w'.cell? ⟨W.heap.size,0,none⟩=some (.string nm)∧w'.cell? ⟨W.heap.size,1,none⟩=some (.string su)∧w'.cell? ⟨W.heap.size,2,none⟩=some vi∧w'.cell? ⟨W.heap.size,3,none⟩=some (.int .i64 fl)∧w'.cell? ⟨W.heap.size,4,none⟩=some (.int .i64 ld)∧w'.cell? ⟨W.heap.size,5,none⟩=some vm) (go_keep)
        (first
         | (go_at_call 76;refine (HQ.out _).mono ?_;rintro e w2 ⟨rfl,hb2⟩;have B2:Hid (Bw W w2):=Zj BB.out.drew hb2;have kp:∀ (bb j:Nat) (v:Value),bb<Wm.heap.size→Wm.cell? ⟨bb,j,none⟩=some v→w2.cell? ⟨bb,j,none⟩=some v:=fun bb j v hl h=>(hb2.cell (p:=⟨bb,j,none⟩) hl).trans h;replace m0:=kp _ _ _ hsm m0;replace m1:=kp _ _ _ hsm m1;replace m2:=kp _ _ _ hsm m2;replace m3:=kp _ _ _ hsm m3;replace m4:=kp _ _ _ hsm m4;replace m5:=kp _ _ _ hsm m5;replace n0:=kp _ _ _ hsW n0;replace n1:=kp _ _ _ hsW n1;replace n2:=kp _ _ _ hsW n2;replace n3:=kp _ _ _ hsW n3;replace n4:=kp _ _ _ hsW n4;replace n5:=kp _ _ _ hsW n5;have hs2:Wm.heap.size≤w2.heap.size:=hb2.size;replace hsm:w1.heap.size<w2.heap.size:=Nat.lt_of_lt_of_le hsm hs2;replace hsW:W.heap.size<w2.heap.size:=Nat.lt_of_lt_of_le hsW hs2;clear kp hb2 HQ)
         | (go_at_call 76;refine (HP.out _).mono ?_;rintro e w3 ⟨rfl,hb3⟩;have B3:Hid (Bw W w3):=Zj B2.out hb3;have kp:∀ (bb j:Nat) (v:Value),bb<w2.heap.size→w2.cell? ⟨bb,j,none⟩=some v→w3.cell? ⟨bb,j,none⟩=some v:=fun bb j v hl h=>(hb3.cell (p:=⟨bb,j,none⟩) hl).trans h;replace m0:=kp _ _ _ hsm m0;replace m1:=kp _ _ _ hsm m1;replace m2:=kp _ _ _ hsm m2;replace m3:=kp _ _ _ hsm m3;replace m4:=kp _ _ _ hsm m4;replace m5:=kp _ _ _ hsm m5;replace n0:=kp _ _ _ hsW n0;replace n1:=kp _ _ _ hsW n1;replace n2:=kp _ _ _ hsW n2;replace n3:=kp _ _ _ hsW n3;replace n4:=kp _ _ _ hsW n4;replace n5:=kp _ _ _ hsW n5;clear kp hb3 HP))
       go_wp2
       refine bodyPost_ret (results_tmp2 rfl _ _ _) rfl ⟨by rw [HR.out,hsp];rfl,B3.out⟩
      ·have hsp:sp=false:=by rw [S0.out];simp [hpk]
       have hs12:¬ (⟨(pkgL q.c.nm.data.toList).toArray⟩:ByteArray)=⟨(pkgL nm.data.toList).toArray⟩:=fun e=>hpk (by injection e with e;simpa using e)
       have hs13:∀ x:List UInt8,(⟨x.toArray⟩:ByteArray).toList=x:=fun x=>by rw [Lib.toList_data]
       have hs14:¬ (⟨(pkgL q.c.nm.data.toList).toArray⟩:ByteArray).toList=(⟨(pkgL nm.data.toList).toArray⟩:ByteArray).toList:=by rw [hs13,hs13];exact hpk
       clear hs13
       rw [hld] at HQ
       clear hld hpk S0
       generalize (⟨(pkgL nm.data.toList).toArray⟩:ByteArray)=s1 at *
       generalize (⟨(pkgL q.c.nm.data.toList).toArray⟩:ByteArray)=s2 at *
       go_region_held3 (fun w'=>w'.cell? ⟨w1.heap.size,0,none⟩=some (.string p.nm)∧w'.cell? ⟨w1.heap.size,1,none⟩=some (.string p.su)∧w'.cell? ⟨w1.heap.size,2,none⟩=some (.slice ai q.c.ni ci)∧w'.cell? ⟨w1.heap.size,3,none⟩=some (.int .i64 p.fl)∧w'.cell? ⟨w1.heap.size,4,none⟩=some (.int .i64 p.ld)∧w'.cell? ⟨w1.heap.size,5,none⟩=some (.slice am qm.length cm)∧w'.cell? ⟨W.heap.size,0,none⟩=some (.string nm)∧w'.cell? ⟨W.heap.size,1,none⟩=some (.string su)∧w'.cell? ⟨W.heap.size,2,none⟩=some vi∧w'.cell? ⟨W.heap.size,3,none⟩=some (.int .i64 fl)∧w'.cell? ⟨W.heap.size,4,none⟩=some (.int .i64 ld)∧w'.cell? ⟨W.heap.size,5,none⟩=some vm) (go_keep)
        (first
         | (go_at_call 76;refine (HQ.out _).mono ?_;rintro e w2 ⟨rfl,hb2⟩;have B2:Hid (Bw W w2):=Zj BB.out.drew hb2;have kp:∀ (bb j:Nat) (v:Value),bb<Wm.heap.size→Wm.cell? ⟨bb,j,none⟩=some v→w2.cell? ⟨bb,j,none⟩=some v:=fun bb j v hl h=>(hb2.cell (p:=⟨bb,j,none⟩) hl).trans h;replace m0:=kp _ _ _ hsm m0;replace m1:=kp _ _ _ hsm m1;replace m2:=kp _ _ _ hsm m2;replace m3:=kp _ _ _ hsm m3;replace m4:=kp _ _ _ hsm m4;replace m5:=kp _ _ _ hsm m5;replace n0:=kp _ _ _ hsW n0;replace n1:=kp _ _ _ hsW n1;replace n2:=kp _ _ _ hsW n2;replace n3:=kp _ _ _ hsW n3;replace n4:=kp _ _ _ hsW n4;replace n5:=kp _ _ _ hsW n5;have hs2:Wm.heap.size≤w2.heap.size:=hb2.size;replace hsm:w1.heap.size<w2.heap.size:=Nat.lt_of_lt_of_le hsm hs2;replace hsW:W.heap.size<w2.heap.size:=Nat.lt_of_lt_of_le hsW hs2;clear kp hb2 HQ)
         | (go_at_call 76;refine (HP.out _).mono ?_;rintro e w3 ⟨rfl,hb3⟩;have B3:Hid (Bw W w3):=Zj B2.out hb3;have kp:∀ (bb j:Nat) (v:Value),bb<w2.heap.size→w2.cell? ⟨bb,j,none⟩=some v→w3.cell? ⟨bb,j,none⟩=some v:=fun bb j v hl h=>(hb3.cell (p:=⟨bb,j,none⟩) hl).trans h;replace m0:=kp _ _ _ hsm m0;replace m1:=kp _ _ _ hsm m1;replace m2:=kp _ _ _ hsm m2;replace m3:=kp _ _ _ hsm m3;replace m4:=kp _ _ _ hsm m4;replace m5:=kp _ _ _ hsm m5;replace n0:=kp _ _ _ hsW n0;replace n1:=kp _ _ _ hsW n1;replace n2:=kp _ _ _ hsW n2;replace n3:=kp _ _ _ hsW n3;replace n4:=kp _ _ _ hsW n4;replace n5:=kp _ _ _ hsW n5;clear kp hb3 HP))
       go_wp2
       refine bodyPost_ret (results_tmp2 rfl _ _ _) rfl ⟨by rw [HR.out,hsp];rfl,B3.out⟩
     ·have hsp:sp=false:=by rw [S0.out];simp [hld]
      generalize (⟨(pkgL nm.data.toList).toArray⟩:ByteArray)=s1 at *
      generalize (⟨(pkgL q.c.nm.data.toList).toArray⟩:ByteArray)=s2 at *
      clear S0
      go_region_held3 (fun w'=>w'.cell? ⟨w1.heap.size,0,none⟩=some (.string p.nm)∧w'.cell? ⟨w1.heap.size,1,none⟩=some (.string p.su)∧w'.cell? ⟨w1.heap.size,2,none⟩=some (.slice ai q.c.ni ci)∧w'.cell? ⟨w1.heap.size,3,none⟩=some (.int .i64 p.fl)∧w'.cell? ⟨w1.heap.size,4,none⟩=some (.int .i64 p.ld)∧w'.cell? ⟨w1.heap.size,5,none⟩=some (.slice am qm.length cm)∧w'.cell? ⟨W.heap.size,0,none⟩=some (.string nm)∧w'.cell? ⟨W.heap.size,1,none⟩=some (.string su)∧w'.cell? ⟨W.heap.size,2,none⟩=some vi∧w'.cell? ⟨W.heap.size,3,none⟩=some (.int .i64 fl)∧w'.cell? ⟨W.heap.size,4,none⟩=some (.int .i64 ld)∧w'.cell? ⟨W.heap.size,5,none⟩=some vm) (go_keep)
       (first
        | (go_at_call 76;refine (HQ.out _).mono ?_;rintro e w2 ⟨rfl,hb2⟩;have B2:Hid (Bw W w2):=Zj BB.out.drew hb2;have kp:∀ (bb j:Nat) (v:Value),bb<Wm.heap.size→Wm.cell? ⟨bb,j,none⟩=some v→w2.cell? ⟨bb,j,none⟩=some v:=fun bb j v hl h=>(hb2.cell (p:=⟨bb,j,none⟩) hl).trans h;replace m0:=kp _ _ _ hsm m0;replace m1:=kp _ _ _ hsm m1;replace m2:=kp _ _ _ hsm m2;replace m3:=kp _ _ _ hsm m3;replace m4:=kp _ _ _ hsm m4;replace m5:=kp _ _ _ hsm m5;replace n0:=kp _ _ _ hsW n0;replace n1:=kp _ _ _ hsW n1;replace n2:=kp _ _ _ hsW n2;replace n3:=kp _ _ _ hsW n3;replace n4:=kp _ _ _ hsW n4;replace n5:=kp _ _ _ hsW n5;have hs2:Wm.heap.size≤w2.heap.size:=hb2.size;replace hsm:w1.heap.size<w2.heap.size:=Nat.lt_of_lt_of_le hsm hs2;replace hsW:W.heap.size<w2.heap.size:=Nat.lt_of_lt_of_le hsW hs2;clear kp hb2 HQ)
        | (go_at_call 76;refine (HP.out _).mono ?_;rintro e w3 ⟨rfl,hb3⟩;have B3:Hid (Bw W w3):=Zj B2.out hb3;have kp:∀ (bb j:Nat) (v:Value),bb<w2.heap.size→w2.cell? ⟨bb,j,none⟩=some v→w3.cell? ⟨bb,j,none⟩=some v:=fun bb j v hl h=>(hb3.cell (p:=⟨bb,j,none⟩) hl).trans h;replace m0:=kp _ _ _ hsm m0;replace m1:=kp _ _ _ hsm m1;replace m2:=kp _ _ _ hsm m2;replace m3:=kp _ _ _ hsm m3;replace m4:=kp _ _ _ hsm m4;replace m5:=kp _ _ _ hsm m5;replace n0:=kp _ _ _ hsW n0;replace n1:=kp _ _ _ hsW n1;replace n2:=kp _ _ _ hsW n2;replace n3:=kp _ _ _ hsW n3;replace n4:=kp _ _ _ hsW n4;replace n5:=kp _ _ _ hsW n5;clear kp hb3 HP))
      go_wp2
      refine bodyPost_ret (results_tmp2 rfl _ _ _) rfl ⟨by rw [HR.out,hsp];rfl,B3.out⟩
end Go.Proofs.YtkoogmegdfpopaaGreat
