import Derived.Test.YtkoogmegdfpopaaGreatOrdB
import Derived.Deep.DeepCutAuto
set_option maxHeartbeats 1000000
set_option maxRecDepth 100000
namespace Go.Proofs.YtkoogmegdfpopaaGreat
open Go.RowKit Go.Maps
def wld (l:List Cls):List Plc:=l.foldl (fun ps c=>dfP ps (defN ps c)) P3
theorem wld_snoc (l:List Cls) (c:Cls):wld (l++[c])=dfP (wld l) (defN (wld l) c):=by
 rw [wld,List.foldl_append];rfl
theorem wld_at {l:List Cls} {i:Nat} {c:Cls} (h:l[i]?=some c):wld (l.take (i+1))=dfP (wld (l.take i)) (defN (wld (l.take i)) c):=by
 rw [List.take_add_one,h];exact wld_snoc _ _
theorem Zbt {P:List Plc→Prop} (h3:P P3) (hd:∀ ps c,P ps→ClsW c→P (dfP ps (defN ps c))):∀ l:List Cls,(∀ c∈l,ClsW c)→P (wld l):=by
 have key:∀ (l:List Cls) (ps:List Plc),(∀ c∈l,ClsW c)→P ps→P (l.foldl (fun ps c=>dfP ps (defN ps c)) ps):=by
  intro l
  induction l with
  | nil=>exact fun ps _ h=>h
  | cons c l ih=>exact fun ps hl h=>ih _ (fun x hx=>hl x (List.mem_cons_of_mem _ hx)) (hd ps c h (hl c (by simp)))
 exact fun l hl=>key l P3 hl h3
theorem wld_wi (l:List Cls) (hl:∀ c∈l,ClsW c):WI (wld l):=Zbt wi3 (fun _ c h hc=>h.define c hc) l hl
theorem clss_w {w:World} {v:Value} {l:List Cls} (h:Zef w v l):∀ c∈l,ClsW c:=by
 obtain ⟨ao,cap,e,h1,h2,h3⟩:=h
 intro c hc
 obtain ⟨bk,o,_,_,h4⟩:=h3 (fun e=>by rw [e] at hc;simp at hc)
 obtain ⟨i,hi⟩:=List.mem_iff_getElem?.1 hc
 obtain ⟨vi,vm,_,hin⟩:=h4 i c hi
 exact hin.ok
def ClsR (n:Nat):Option Plc→Ending→World→Prop
 | none,e,_=>e=.returned (.tuple #[.agg #[.string ⟨#[]⟩,.string ⟨#[]⟩,.slice none 0 0,.int .i64 0,.int .i64 0,.slice none 0 0],.int .i64 3])
 | some q,e,w'=>∃ vi vm qm,e=.returned (.tuple #[.agg #[.string q.c.nm,.string q.c.su,vi,.int .i64 q.c.fl,.int .i64 q.c.ld,vm],.int .i64 0])∧OwnC w' n vi q.c.ni q.c.xi vm qm∧qm.map Prod.fst=q.c.ms
theorem Zi2 {b:Nat} {ps:List Plc} {W:World} (h:WAt b ps W) (hB:∀ q∈ps,PlcB q) (x:Int):Calls Tryz.prog 12 #[.pointer (some ⟨b,0,none⟩),.int .i64 x] W fun e w'=>ClsR W.heap.size (plcI ps x) e w'∧Bw W w':=by
 obtain ⟨N,mb,vp,pv,h⟩:=h
 rcases Zu ps x with ⟨h1,h2⟩|⟨k,p,rfl,h2,h1⟩
 ·rw [h1];exact class_no N b mb ps vp pv x W h h2
 ·rw [h1]
  refine (Zi1 N b mb ps vp pv k p W h h2 (hB p (List.mem_of_getElem? h2))).mono ?_
  rintro e w' ⟨vi,vm,qm,h1,h2,h3,h4⟩
  exact ⟨⟨vi,vm,qm,h1,h2,h3⟩,h4⟩
def pkB (nm:ByteArray):ByteArray:=⟨(pkgL nm.data.toList).toArray⟩
def ifcC (cs:List Cls) (i:Int):Bool:=match clsI cs i with
 | some c=>hasI c.fl 512
 | none=>false
theorem Zgg {b:Nat} {cs:List Cls} {W:World} (h:RAt b cs W) (i:Int):Calls Tryz.prog 33 #[.pointer (some ⟨b,0,none⟩),.int .i64 i] W fun e w'=>e=.returned (.bool (ifcC cs i))∧w'=W:=by
 have HI:Hid (∀ y,(clsI cs i).isSome=y→Calls Tryz.prog 38 #[.pointer (some ⟨b,0,none⟩),.int .i64 i] W fun e w'=>e=.returned (.bool y)∧w'=W):=fun y hy=>by rw [← hy];exact rIn_c h i
 rcases Jo cs i with ⟨h1,h2⟩|⟨k,c,rfl,h2,h1⟩
 ·have e:ifcC cs i=false:=by rw [ifcC,h1]
  rw [e]
  have HI:Hid (Calls Tryz.prog 38 #[.pointer (some ⟨b,0,none⟩),.int .i64 i] W fun e w'=>e=.returned (.bool false)∧w'=W):=HI.out false (by rw [h1];rfl)
  clear h h1 h2 e
  go_enter Tryz.func33,Tryz.ntmps33
  go_wp2_with (go_at_call 38;refine HI.out.mono ?_;rintro e w9 ⟨rfl,hw9⟩;rw [hw9];clear hw9 w9)
  exact bodyPost_ret (results_tmp rfl _ _ _) rfl ⟨rfl,rfl⟩
 ·have e:ifcC cs k=hasI c.fl 512:=by rw [ifcC,h1]
  rw [e]
  have HI:Hid (Calls Tryz.prog 38 #[.pointer (some ⟨b,0,none⟩),.int .i64 (k:Int)] W fun e w'=>e=.returned (.bool true)∧w'=W):=HI.out true (by rw [h1];rfl)
  obtain ⟨g,cap,vi,vm,b0,_,_,c0,c1,c2,c3,c4,c5,_⟩:=h.cells h2
  have hkI:(k:Int)<(cs.length:Int):=by have:=(List.getElem?_eq_some_iff.1 h2).1;omega
  have HF:Hid (∀ w:World,Calls Tryz.prog 34 #[.int .i64 c.fl,.int .i64 512] w fun e w'=>e=.returned (.bool (hasI c.fl 512))∧w'=w):=Xg c.fl 512
  generalize hasI c.fl 512=R at *
  clear h h1 h2 e
  go_enter Tryz.func33,Tryz.ntmps33
  go_wp2_with (first
   | (go_at_call 38;refine HI.out.mono ?_;rintro e w9 ⟨rfl,hw9⟩;rw [hw9];clear hw9 w9)
   | (go_at_call 34;refine (HF.out _).mono ?_;rintro e w9 ⟨rfl,hw9⟩;rw [hw9];clear hw9 w9))
  exact bodyPost_ret (results_tmp rfl _ _ _) rfl ⟨rfl,rfl⟩
def togB (p q:Cls):Bool:=(p.ld == q.ld)&&(pkgL p.nm.data.toList == pkgL q.nm.data.toList)
theorem rTog_c (p q:Cls) (vi vm vi' vm':Value) (hp:p.nm.size≤maxLen) (hq:q.nm.size≤maxLen) (W:World):Calls Tryz.prog 61 #[.agg #[.string p.nm,.string p.su,vi,.int .i64 p.fl,.int .i64 p.ld,vm],.agg #[.string q.nm,.string q.su,vi',.int .i64 q.fl,.int .i64 q.ld,vm']] W fun e w'=>e=.returned (.bool (togB p q))∧Bw W w':=by
 have HP:Hid (∀ u w,u=p.nm→Calls Tryz.prog 86 #[.string u] w fun e w'=>e=.returned (.string (pkB p.nm))∧w'=w):=fun u w hu=>by rw [hu];exact Js p.nm hp w
 have HQ:Hid (∀ u w,u=q.nm→Calls Tryz.prog 86 #[.string u] w fun e w'=>e=.returned (.string (pkB q.nm))∧w'=w):=fun u w hu=>by rw [hu];exact Js q.nm hq w
 have HR:Hid (togB p q=((p.ld == q.ld)&&((pkB p.nm).toList == (pkB q.nm).toList))):=by
  rw [Hid,togB,Lib.toList_data,Lib.toList_data];rfl
 generalize togB p q=R at *
 generalize pkB p.nm=s1 at *
 generalize pkB q.nm=s2 at *
 clear hp hq
 by_cases hld:p.ld=q.ld
 ·have hld2:(p.ld == q.ld)=true:=by rw [hld];simp
  cases hz:(s1.toList == s2.toList)
  all_goals
   rw [hld2,hz] at HR
   go_enter Tryz.func61,Tryz.ntmps61
   go_wp2
   go_quiet (first|(go_at_call 86;refine Calls.quiet_of_same (HP.out _ _ rfl))|(go_at_call 86;refine Calls.quiet_of_same (HQ.out _ _ rfl)))
   go_wp2
   exact bodyPost_ret (results_tmp rfl _ _ _) rfl ⟨by rw [HR.out];rfl,below_drewN sqR _⟩
 ·have hld2:(p.ld == q.ld)=false:=by simpa using hld
  rw [hld2] at HR
  go_enter Tryz.func61,Tryz.ntmps61
  go_wp2
  go_quiet (first|(go_at_call 86;refine Calls.quiet_of_same (HP.out _ _ rfl)))
  go_wp2
  exact bodyPost_ret (results_tmp rfl _ _ _) rfl ⟨by rw [HR.out];rfl,below_drewN sqR _⟩
theorem Zf7 {w:World} {v:Value} {l:List (List UInt8)} (h:IsStrs w v l):∃ a c,v=.slice a l.length c:=by
 obtain ⟨a,c,e,_⟩:=h
 exact ⟨a,c,e⟩
theorem Zgx {w:World} {v:Value} {l:List Mth} (h:IsMths w v l):∃ a c,v=.slice a l.length c:=by
 obtain ⟨a,c,e,_⟩:=h
 exact ⟨a,c,e⟩
theorem rOpen_c (c p:Cls) (vi vm vi' vm':Value) (hc:c.nm.size≤maxLen) (hp:p.nm.size≤maxLen) (W:World):Calls Tryz.prog 35 #[.agg #[.string c.nm,.string c.su,vi,.int .i64 c.fl,.int .i64 c.ld,vm],.agg #[.string p.nm,.string p.su,vi',.int .i64 p.fl,.int .i64 p.ld,vm']] W fun e w'=>e=.returned (.bool (hasI p.fl 1||togB c p))∧Bw W w':=by
 have HT:Hid (∀ w,Calls Tryz.prog 61 #[.agg #[.string c.nm,.string c.su,vi,.int .i64 c.fl,.int .i64 c.ld,vm],.agg #[.string p.nm,.string p.su,vi',.int .i64 p.fl,.int .i64 p.ld,vm']] w fun e w'=>e=.returned (.bool (togB c p))∧Bw w w'):=fun w=>rTog_c c p vi vm vi' vm' hc hp w
 have HF:Hid (∀ w:World,Calls Tryz.prog 34 #[.int .i64 p.fl,.int .i64 1] w fun e w'=>e=.returned (.bool (hasI p.fl 1))∧w'=w):=Xg p.fl 1
 generalize hasI p.fl 1=b1 at *
 generalize togB c p=b2 at *
 clear hc hp
 cases b1
 all_goals
  go_enter Tryz.func35,Tryz.ntmps35
  go_wp2_with (first
   | (go_at_call 34;refine (HF.out _).mono ?_;rintro e w9 ⟨rfl,hw9⟩;rw [hw9];clear hw9 w9)
   | (go_at_call 61;refine (HT.out _).mono ?_;rintro e w1 ⟨rfl,hb⟩;have B1:Hid (Bw W w1):=Zj sqR hb;clear hb HT))
  first
   | exact bodyPost_ret (results_tmp rfl _ _ _) rfl ⟨rfl,B1.out⟩
   | exact bodyPost_ret (results_tmp rfl _ _ _) rfl ⟨rfl,sqR⟩
structure CpR (W wr:World) (nm su:ByteArray) (fl ld:Int) (ai0 am0 ai:Option Addr) (ni ci0 capi M cm0 gm:Nat) (xi:List Value) (pm qm:List (HM×Value)) (k:Nat):Prop where
 bc:wr.heap[W.heap.size]?=some (.cells #[.string nm,.string su,.slice ai0 ni ci0,.int .i64 fl,.int .i64 ld,.slice am0 M cm0] 33 (0,0))
 br:wr.heap[W.heap.size+1]?=some (.cells #[.string ⟨#[]⟩,.string ⟨#[]⟩,.slice none 0 0,.int .i64 0,.int .i64 0,.slice none 0 0] 33 (0,0))
 bd:wr.heap[W.heap.size+1+1]?=some (.cells #[.string nm,.string su,.slice ai ni capi,.int .i64 fl,.int .i64 ld,.slice (some ⟨gm,0,none⟩) M M] 33 (0,0))
 ifs:wr.ownsRow (W.heap.size+1+1+1) 9 1 (.slice ai ni capi) ni xi
 len:qm.length=M
 ms:wr.ownsRow (W.heap.size+1+1+1) 48 6 (.slice (some ⟨gm,0,none⟩) M M) M (Zm qm)
 eq:∀ j<k,(qm[j]?).map Prod.fst=(pm[j]?).map Prod.fst
 old:∀ j p,qm[j]?=some p→j<k→wr.ownsRow (W.heap.size+1+1+1) 56 7 p.2 p.1.n p.1.xs
 below:Bw W wr
def hm0:HM×Value:=(⟨⟨#[]⟩,⟨#[]⟩,0,0,0,0,[]⟩,.slice none 0 0)
theorem Zif (M:Nat):(madeCells (Value.agg #[.string ⟨#[]⟩,.string ⟨#[]⟩,.int .i64 0,.int .i64 0,.int .i64 0,.slice none 0 0]).cells (M * 6)).toList=Zm (List.replicate M hm0):=by
 refine List.ext_getElem? fun j=>?_
 by_cases hj:j<M * 6
 ·have hq:j / 6<M:=by omega
  have h:=Zp (List.replicate M hm0) (j / 6) hm0 (by simp [hq]) (j % 6) (Nat.mod_lt _ (by decide))
  rw [show j / 6 * 6+j % 6=j by omega] at h
  rw [h]
  have e:∀ r,r<6→(hmC hm0)[r]?=some ((Value.agg #[.string ⟨#[]⟩,.string ⟨#[]⟩,.int .i64 0,.int .i64 0,.int .i64 0,.slice none 0 0]).cells[r]!):=fun r hr=>by
   match r,hr with
   | 0,_=>rfl
   | 1,_=>rfl
   | 2,_=>rfl
   | 3,_=>rfl
   | 4,_=>rfl
   | 5,_=>rfl
  rw [e _ (Nat.mod_lt _ (by decide))]
  simp [madeCells,hj]
  rfl
 ·rw [List.getElem?_eq_none (by simp [size_madeCells];omega),List.getElem?_eq_none (by rw [Y2];simp;omega)]
theorem Ziq (l:List (HM×Value)) (k:Nat) (m:HM) (u:Value) (hk:k<l.length):((((((Zm l).set (k * 6) (.string m.nm)).set (k * 6+1) (.string m.ds)).set (k * 6+2) (.int .i64 m.fl)).set (k * 6+3) (.int .i64 m.lo)).set (k * 6+4) (.int .i64 m.st)).set (k * 6+5) u=Zm (l.set k (m,u)):=by
 induction l generalizing k with
 | nil=>simp at hk
 | cons t ts ih =>
   have e:∀ a b,Zm (a::b)=hmC a++Zm b:=fun a b=>by simp [Zm]
   cases k with
   | zero=>rw [List.set_cons_zero,e,e];simp [hmC]
   | succ k =>
     rw [List.set_cons_succ,e,e,← ih k (by simpa using hk)]
     have hs:∀ (r:Nat) (v:Value) (L:List Value),(hmC t++L).set ((k+1) * 6+r) v=hmC t++L.set (k * 6+r) v:=fun r v L=>by
      rw [List.set_append_right _ _ (by simp [hmC];omega)]
      congr 2
      simp [hmC];omega
     have h0:=hs 0
     simp only [Nat.add_zero] at h0
     rw [h0,hs 1,hs 2,hs 3,hs 4,hs 5]
theorem CpR.put {W wr:World} {nm su:ByteArray} {fl ld:Int} {ai0 am0 ai:Option Addr} {ni ci0 capi M cm0 g:Nat} {xi:List Value} {pm qm:List (HM×Value)} {k:Nat} (h:CpR W wr nm su fl ld ai0 am0 ai ni ci0 capi M cm0 g xi pm qm k) (hk:k<M) (m:HM) (u:Value) :
 CpR W ((((((wr.setCell ⟨g,k * 6,none⟩ (.string m.nm)).setCell ⟨g,k * 6+1,none⟩ (.string m.ds)).setCell ⟨g,k * 6+2,none⟩ (.int .i64 m.fl)).setCell ⟨g,k * 6+3,none⟩ (.int .i64 m.lo)).setCell ⟨g,k * 6+4,none⟩ (.int .i64 m.st)).setCell ⟨g,k * 6+5,none⟩ u).drew nm su fl ld ai0 am0 ai ni ci0 capi M cm0 g xi pm (qm.set k (m,u)) k:=by
 obtain ⟨hgN,hglt⟩:=h.ms.lt g rfl
 obtain ⟨cur,hcur⟩:=Zhr h.ms
 obtain ⟨s0,_⟩:=h.ms.stored (k * 6) (.string m.nm)
 obtain ⟨s1,_⟩:=s0.stored (k * 6+1) (.string m.ds)
 obtain ⟨s2,_⟩:=s1.stored (k * 6+2) (.int .i64 m.fl)
 obtain ⟨s3,_⟩:=s2.stored (k * 6+3) (.int .i64 m.lo)
 obtain ⟨s4,_⟩:=s3.stored (k * 6+4) (.int .i64 m.st)
 obtain ⟨s5,_⟩:=s4.stored (k * 6+5) u
 rw [Ziq qm k m u (by rw [h.len];exact hk)] at s5
 have G:wr.grownBy ((((((wr.setCell ⟨g,k * 6,none⟩ (.string m.nm)).setCell ⟨g,k * 6+1,none⟩ (.string m.ds)).setCell ⟨g,k * 6+2,none⟩ (.int .i64 m.fl)).setCell ⟨g,k * 6+3,none⟩ (.int .i64 m.lo)).setCell ⟨g,k * 6+4,none⟩ (.int .i64 m.st)).setCell ⟨g,k * 6+5,none⟩ u) (some g) :=
  (Zn _ g _ _).trans ((Zn _ g _ _).trans ((Zn _ g _ _).trans ((Zn _ g _ _).trans ((Zn _ g _ _).trans (Zn _ g _ _)))))
 generalize ((((((wr.setCell ⟨g,k * 6,none⟩ (.string m.nm)).setCell ⟨g,k * 6+1,none⟩ (.string m.ds)).setCell ⟨g,k * 6+2,none⟩ (.int .i64 m.fl)).setCell ⟨g,k * 6+3,none⟩ (.int .i64 m.lo)).setCell ⟨g,k * 6+4,none⟩ (.int .i64 m.st)).setCell ⟨g,k * 6+5,none⟩ u)=w6 at *
 have B6:Bw W w6:=h.below.grown G h.below.size (fun k hk=>by cases hk;omega)
 refine ⟨(G.block _ (Array.getElem?_eq_some_iff.1 h.bc).1 (by simp;omega)).trans h.bc,(G.block _ (Array.getElem?_eq_some_iff.1 h.br).1 (by simp;omega)).trans h.br,(G.block _ (Array.getElem?_eq_some_iff.1 h.bd).1 (by simp;omega)).trans h.bd,(h.ifs.kept G (Ze h.ifs hcur (by decide))).drew,by rw [List.length_set];exact h.len,s5.drew,?_,?_,B6.drew⟩
 ·intro j hj
  rw [List.getElem?_set_ne (by omega)]
  exact h.eq j hj
 ·intro j p hj hjk
  rw [List.getElem?_set_ne (by omega)] at hj
  have:=h.old j p hj hjk
  exact (this.kept G (Ze this hcur (by decide))).drew
theorem CpR.next {W wr w5:World} {nm su:ByteArray} {fl ld:Int} {ai0 am0 ai:Option Addr} {ni ci0 capi M cm0 g:Nat} {xi:List Value} {pm qm:List (HM×Value)} {k:Nat} {m:HM} {u u0 v':Value} (h:CpR W wr nm su fl ld ai0 am0 ai ni ci0 capi M cm0 g xi pm qm k) (hq:qm[k]?=some (m,u)) (hp:pm[k]?=some (m,u0)) (hb:Bw wr w5) (ho:w5.ownsRow (W.heap.size+1+1+1) 56 7 v' m.n m.xs) :
 CpR W (w5.setCell ⟨g,k * 6+5,none⟩ v') nm su fl ld ai0 am0 ai ni ci0 capi M cm0 g xi pm (qm.set k (m,v')) (k+1):=by
 have hms:=Zi h.ms hb
 obtain ⟨hgN,hglt⟩:=hms.lt g rfl
 obtain ⟨cur,hcur⟩:=Zhr hms
 obtain ⟨s5,G⟩:=hms.stored (k * 6+5) v'
 rw [Zdx qm k m u v' hq] at s5
 have hif:=Zi h.ifs hb
 have hkq:k<qm.length:=(List.getElem?_eq_some_iff.1 hq).1
 refine ⟨(G.block _ (Nat.lt_of_lt_of_le (Array.getElem?_eq_some_iff.1 h.bc).1 hb.size) (by simp;omega)).trans ((hb.block _ (Array.getElem?_eq_some_iff.1 h.bc).1).trans h.bc),(G.block _ (Nat.lt_of_lt_of_le (Array.getElem?_eq_some_iff.1 h.br).1 hb.size) (by simp;omega)).trans ((hb.block _ (Array.getElem?_eq_some_iff.1 h.br).1).trans h.br),(G.block _ (Nat.lt_of_lt_of_le (Array.getElem?_eq_some_iff.1 h.bd).1 hb.size) (by simp;omega)).trans ((hb.block _ (Array.getElem?_eq_some_iff.1 h.bd).1).trans h.bd),(hif.kept G (Ze hif hcur (by decide))),by rw [List.length_set];exact h.len,s5,?_,?_,((h.below.trans (hb.mono h.below.size)).grown G (Nat.le_trans h.below.size hb.size) (fun k hk=>by cases hk;omega))⟩
 ·intro j hj
  by_cases e:j=k
  ·subst e
   rw [List.getElem?_set_self hkq,hp];rfl
  ·rw [List.getElem?_set_ne (fun e2=>e e2.symm)]
   exact h.eq j (by omega)
 ·intro j p hj hjk
  by_cases e:j=k
  ·subst e
   rw [List.getElem?_set_self hkq] at hj
   cases hj
   exact (ho.kept G (Ze ho hcur (by decide)))
  ·rw [List.getElem?_set_ne (fun e2=>e e2.symm)] at hj
   have:=Zi (h.old j p hj (by omega)) hb
   exact (this.kept G (Ze this hcur (by decide)))
theorem Zak (nm su:ByteArray) (fl ld:Int) (vi vm:Value) (ni:Nat) (xi:List Value) (pm:List (HM×Value)) (W:World) (hi:Rdw W vi ni 1 xi) (hi1:∀ u∈xi,u.oneCell'=true) (hni:ni≤8796093022208)
 (hm:Rdw W vm pm.length 6 (Zm pm)) (hnm:pm.length≤1759218604390) (hc:∀ p∈pm,Rdw W p.2 p.1.n 7 p.1.xs∧(∀ u∈p.1.xs,u.oneCell'=true)∧p.1.n≤1599289640354) :
 Calls Tryz.prog 27 #[.agg #[.string nm,.string su,vi,.int .i64 fl,.int .i64 ld,vm]] W fun e w'=>∃ vi' vm' qm,e=.returned (.agg #[.string nm,.string su,vi',.int .i64 fl,.int .i64 ld,vm'])∧OwnC w' W.heap.size vi' ni xi vm' qm∧qm.map Prod.fst=pm.map Prod.fst∧Bw W w':=by
 obtain ⟨ai0,ci0,rfl⟩:=hi.slice
 obtain ⟨am0,cm0,rfl⟩:=hm.slice
 obtain ⟨i0,hi0,hz0,hz1,hz2⟩:=info_parts Tryz.hinfo9
 have HI:Hid (Rdw W (.slice ai0 ni ci0) ni 1 xi):=hi
 have HM':Hid (Rdw W (.slice am0 pm.length cm0) pm.length 6 (Zm pm)):=hm
 have HC:Hid (∀ p∈pm,Rdw W p.2 p.1.n 7 p.1.xs∧(∀ u∈p.1.xs,u.oneCell'=true)∧p.1.n≤1599289640354):=hc
 have HI1:Hid (∀ u∈xi,u.oneCell'=true):=hi1
 obtain ⟨M,hM⟩:∃ M,pm.length=M:=⟨_,rfl⟩
 have HML:Hid (pm.length=M):=hM
 rw [hM] at hnm ⊢
 clear hi hm hc hM hi1
 go_enter Tryz.func27,Tryz.ntmps27
 go_wp2_with (at_builtin;refine Yg rfl _ _ 30 rfl (W.heap.size+1+1+1) 9 i0 (.string ⟨#[]⟩) 1 16 Tryz.underlying30 hi0 hz0 hz1 hz2 rfl (by decide) (.slice (some ⟨W.heap.size+1+1+1,0,none⟩) 0 0) 0 [] rfl (Qr _ _ (by simp) _ _ _ (by simp)) (.slice ai0 ni ci0) ni xi rfl (HI.out.keep sqR) HI1.out ?c1 ?c2 ?c3 ?_)
 case c1=>unfold maxLen;omega
 case c2=>omega
 case c3=>simp
 intro v' w1 hown hgrow
 obtain ⟨ai,capi,rfl⟩:=ownv hown
 have sz1:=hgrow.size
 simp only [World.size_alloc] at sz1
 have ob:∀ j,j<W.heap.size+1+1+1→some j≠(Value.slice (some ⟨W.heap.size+1+1+1,0,none⟩) 0 0).ownBlock:=fun j hj=>by simp [Value.ownBlock];omega
 have hbc:w1.heap[W.heap.size]?=some (.cells #[.string nm,.string su,.slice ai0 ni ci0,.int .i64 fl,.int .i64 ld,.slice am0 M cm0] 33 (0,0)):=by
  rw [hgrow.block _ (by simp;try omega) (ob _ (by omega))]
  exact (Below.heap_alloc _ _ _ (by simp;try omega)).trans ((Below.heap_alloc _ _ _ (by simp;try omega)).trans (heap_alloc2_old W _ _))
 have hbr:w1.heap[W.heap.size+1]?=some (.cells #[.string ⟨#[]⟩,.string ⟨#[]⟩,.slice none 0 0,.int .i64 0,.int .i64 0,.slice none 0 0] 33 (0,0)):=by
  rw [hgrow.block _ (by simp;try omega) (ob _ (by omega))]
  exact (Below.heap_alloc _ _ _ (by simp;try omega)).trans ((Below.heap_alloc _ _ _ (by simp)).trans (heap_alloc2_new W _ _))
 have hbd:w1.heap[W.heap.size+1+1]?=some (.cells #[.string nm,.string su,.slice ai0 ni ci0,.int .i64 fl,.int .i64 ld,.slice am0 M cm0] 33 (0,0)):=by
  rw [hgrow.block _ (by simp) (ob _ (by omega))]
  refine (Below.heap_alloc _ _ _ (by simp)).trans ?_
  have:=Xs ((W.alloc (.cells #[.string nm,.string su,.slice ai0 ni ci0,.int .i64 fl,.int .i64 ld,.slice am0 M cm0] 33)).alloc (.cells #[.string ⟨#[]⟩,.string ⟨#[]⟩,.slice none 0 0,.int .i64 0,.int .i64 0,.slice none 0 0] 33)) (.cells #[.string nm,.string su,.slice ai0 ni ci0,.int .i64 fl,.int .i64 ld,.slice am0 M cm0] 33)
  simpa using this
 have B1:Hid (Bw W w1):=by
  refine Below.grown (w:=_) ?_ hgrow (by simp;try omega) (fun k hk=>by simp [Value.ownBlock] at hk;omega)
  exact sqR
 have O1:Hid (w1.ownsRow (W.heap.size+1+1+1) 9 1 (.slice ai ni capi) ni xi):=hown
 have hc5:=cell_of_row w1 W.heap.size 5 _ _ _ hbc
 have d0:=cell_of_row w1 (W.heap.size+1+1) 0 _ _ _ hbd
 have e0:=frozen_of_row w1 (W.heap.size+1+1) 0 _ _ hbd
 have d1:=cell_of_row w1 (W.heap.size+1+1) 1 _ _ _ hbd
 have e1:=frozen_of_row w1 (W.heap.size+1+1) 1 _ _ hbd
 have d2:=cell_of_row w1 (W.heap.size+1+1) 2 _ _ _ hbd
 have e2:=frozen_of_row w1 (W.heap.size+1+1) 2 _ _ hbd
 have d3:=cell_of_row w1 (W.heap.size+1+1) 3 _ _ _ hbd
 have e3:=frozen_of_row w1 (W.heap.size+1+1) 3 _ _ hbd
 have d4:=cell_of_row w1 (W.heap.size+1+1) 4 _ _ _ hbd
 have e4:=frozen_of_row w1 (W.heap.size+1+1) 4 _ _ hbd
 have d5:=cell_of_row w1 (W.heap.size+1+1) 5 _ _ _ hbd
 have e5:=frozen_of_row w1 (W.heap.size+1+1) 5 _ _ hbd
 simp only [List.getElem?_toArray,List.getElem?_cons_zero,List.getElem?_cons_succ] at hc5 d0 d1 d2 d3 d4 d5
 have HBC:Hid _:=hbc
 have HBR:Hid _:=hbr
 have HBD:Hid _:=hbd
 clear hown hgrow ob hbc hbr hbd HI HI1
 obtain ⟨iM,hiM,hzM,hsM,hbM⟩:=info_parts Tryz.hinfo58
 have hmk:∀ w:World,(Instr.makeSlice 31 (.int .i64 (M:Int)) (.int .i64 (M:Int))).run Tryz.prog w=.ok (.slice (some ⟨w.heap.size,0,none⟩) M M) (w.alloc (.cells (madeCells (Value.agg #[.string ⟨#[]⟩,.string ⟨#[]⟩,.int .i64 0,.int .i64 0,.int .i64 0,.slice none 0 0]).cells (M * 6)) 48)):=fun w=>by
  have:=run_make w (P:=Tryz.prog) 31 48 iM _ Tryz.underlying31 hiM hzM .i64 .i64 (M:Int) (M:Int) (by omega) (Int.le_refl _) (by rw [hbM];omega) (by omega)
  rw [hsM,Int.toNat_natCast] at this
  exact this
 have hn2:¬ W.heap.size+1+1=w1.heap.size:=by omega
 have hl2:W.heap.size+1+1<w1.heap.size:=by omega
 have hn0:¬ W.heap.size=w1.heap.size:=by omega
 have hz:=Zif M
 have HZ:Hid _:=hz
 generalize madeCells (Value.agg #[.string ⟨#[]⟩,.string ⟨#[]⟩,.int .i64 0,.int .i64 0,.int .i64 0,.slice none 0 0]).cells (M * 6)=ZC at *
 have hl1:W.heap.size+1<w1.heap.size:=by omega
 have hl0:W.heap.size<w1.heap.size:=by omega
 have HR0:Hid (CpR W (((w1.setCell ⟨W.heap.size+1+1,2,none⟩ (.slice ai ni capi)).setCell ⟨W.heap.size+1+1,5,none⟩ (.slice (some ⟨w1.heap.size,0,none⟩) M M)).alloc (.cells ZC 48)) nm su fl ld ai0 am0 ai ni ci0 capi M cm0 w1.heap.size xi pm (List.replicate M hm0) 0):=by
  have hne0:W.heap.size≠W.heap.size+1+1:=by omega
  have hne1:W.heap.size+1≠W.heap.size+1+1:=by omega
  have hd1:=heap_setCell_same w1 (W.heap.size+1+1) 2 _ 33 (.slice ai ni capi) HBD.out
  have hd2:=heap_setCell_same _ (W.heap.size+1+1) 5 _ 33 (.slice (some ⟨w1.heap.size,0,none⟩) M M) hd1
  have szs:((w1.setCell ⟨W.heap.size+1+1,2,none⟩ (.slice ai ni capi)).setCell ⟨W.heap.size+1+1,5,none⟩ (.slice (some ⟨w1.heap.size,0,none⟩) M M)).heap.size=w1.heap.size:=by simp
  refine ⟨?_,?_,?_,?_,by simp,?_,fun j hj=>absurd hj (Nat.not_lt_zero _),fun j p _ hj=>absurd hj (Nat.not_lt_zero _),?_⟩
  ·exact (Below.heap_alloc _ _ _ (by rw [szs];exact hl0)).trans ((heap_setCell_other _ _ _ _ hne0).trans ((heap_setCell_other _ _ _ _ hne0).trans HBC.out))
  ·exact (Below.heap_alloc _ _ _ (by rw [szs];exact hl1)).trans ((heap_setCell_other _ _ _ _ hne1).trans ((heap_setCell_other _ _ _ _ hne1).trans HBR.out))
  ·exact (Below.heap_alloc _ _ _ (by rw [szs];exact hl2)).trans (hd2.trans rfl)
  ·exact (ownsRow_setCell_below (a:=⟨W.heap.size+1+1,5,none⟩) (ownsRow_setCell_below (a:=⟨W.heap.size+1+1,2,none⟩) O1.out (by simp) _) (by simp) _).alloc _
  ·have h:=World.ownsRow_lit (base:=W.heap.size+1+1+1) (e:=48) (size:=6) ((w1.setCell ⟨W.heap.size+1+1,2,none⟩ (.slice ai ni capi)).setCell ⟨W.heap.size+1+1,5,none⟩ (.slice (some ⟨w1.heap.size,0,none⟩) M M)) ZC M (by rw [szs];omega) (by unfold maxLen;omega) (by have:=congrArg List.length HZ.out;rw [Y2] at this;simpa using this)
   rw [szs,HZ.out] at h
   exact h
  ·exact (((B1.out.setCell (p:=⟨W.heap.size+1+1,2,none⟩) (show W.heap.size≤W.heap.size+1+1 by omega) _).setCell (p:=⟨W.heap.size+1+1,5,none⟩) (show W.heap.size≤W.heap.size+1+1 by omega) _).alloc (by rw [szs];omega) _)
 go_wp2
 clear d0 d1 d2 d3 d4 d5 e0 e1 e2 e3 e4 e5 HBC HBR HBD O1 hc5 hmk HZ hz
 go_loopw [4] (fun kv wr=>∃ (k:Nat) (qm:List (HM×Value)),kv=.int .i64 k∧k≤M∧Hid (CpR W wr nm su fl ld ai0 am0 ai ni ci0 capi M cm0 w1.heap.size xi pm qm k)) (fun kv _=>M - (intOf kv).toNat)
 case atStart=>exact ⟨0,_,rfl,Nat.zero_le _,HR0⟩
 case round =>
  obtain ⟨k,qm,rfl,hk,hR⟩:=hrel
  clear HR0
  have c5:=cell_of_row wr W.heap.size 5 _ _ _ hR.out.bc
  have d5:=cell_of_row wr (W.heap.size+1+1) 5 _ _ _ hR.out.bd
  simp only [List.getElem?_toArray,List.getElem?_cons_zero,List.getElem?_cons_succ] at c5 d5
  generalize w1.heap.size=g at *
  by_cases hlt:k<M
  ·obtain ⟨⟨m,u⟩,hku⟩:∃ p,pm[k]?=some p:=⟨_,List.getElem?_eq_getElem (by rw [HML.out];exact hlt)⟩
   have hmem:=List.mem_of_getElem? hku
   obtain ⟨hcr,hc1,hcn⟩:=HC.out _ hmem
   simp only at hcr hc1 hcn
   obtain ⟨ua,uc,hu⟩:=hcr.slice
   subst hu
   obtain ⟨bk,o,rfl,hbk,hcell⟩:∃ bk o,am0=some ⟨bk,o,none⟩∧bk<W.heap.size∧∀ j,j<6→W.cell? ⟨bk,o+k * 6+j,none⟩=(hmC (m,.slice ua m.n uc))[j]?:=by
    rcases HM'.out with h|⟨e,_⟩
    ·rcases h.val with ⟨_,e⟩|⟨bk,o,cap,e,_,_,h3,h4⟩
     ·rw [HML.out] at e;omega
     ·simp only [Value.slice.injEq] at e
      refine ⟨bk,o,e.1,h3,fun j hj=>?_⟩
      have:=Zp pm k _ hku j hj
      have hs:∃ z,(hmC (m,.slice ua m.n uc))[j]?=some z:=⟨_,List.getElem?_eq_getElem (by simp [hmC];omega)⟩
      obtain ⟨z,hz⟩:=hs
      rw [hz,Nat.add_assoc]
      exact h4 _ z (this.trans hz)
    ·rw [HML.out] at e;omega
   have q0:wr.cell? ⟨bk,o+k * 6,none⟩=some (.string m.nm):=(hR.out.below.cell (p:=⟨bk,o+k * 6,none⟩) hbk).trans (hcell 0 (by omega))
   have q1:wr.cell? ⟨bk,o+k * 6+1,none⟩=some (.string m.ds):=(hR.out.below.cell (p:=⟨bk,o+k * 6+1,none⟩) hbk).trans (hcell 1 (by omega))
   have q2:wr.cell? ⟨bk,o+k * 6+2,none⟩=some (.int .i64 m.fl):=(hR.out.below.cell (p:=⟨bk,o+k * 6+2,none⟩) hbk).trans (hcell 2 (by omega))
   have q3:wr.cell? ⟨bk,o+k * 6+3,none⟩=some (.int .i64 m.lo):=(hR.out.below.cell (p:=⟨bk,o+k * 6+3,none⟩) hbk).trans (hcell 3 (by omega))
   have q4:wr.cell? ⟨bk,o+k * 6+4,none⟩=some (.int .i64 m.st):=(hR.out.below.cell (p:=⟨bk,o+k * 6+4,none⟩) hbk).trans (hcell 4 (by omega))
   have q5:wr.cell? ⟨bk,o+k * 6+5,none⟩=some (.slice ua m.n uc):=(hR.out.below.cell (p:=⟨bk,o+k * 6+5,none⟩) hbk).trans (hcell 5 (by omega))
   obtain ⟨hgN,hglt⟩:=hR.out.ms.lt g rfl
   obtain ⟨⟨m',u'⟩,hqk⟩:∃ p,qm[k]?=some p:=⟨_,List.getElem?_eq_getElem (by rw [hR.out.len];exact hlt)⟩
   have hat:=fun j hj=>(hR.out.ms.cellAt (k * 6+j) (by omega)).trans (Zp qm k _ hqk j hj)
   have t0:wr.cell? ⟨g,k * 6,none⟩=some (.string m'.nm):=hat 0 (by omega)
   have t1:wr.cell? ⟨g,k * 6+1,none⟩=some (.string m'.ds):=hat 1 (by omega)
   have t2:wr.cell? ⟨g,k * 6+2,none⟩=some (.int .i64 m'.fl):=hat 2 (by omega)
   have t3:wr.cell? ⟨g,k * 6+3,none⟩=some (.int .i64 m'.lo):=hat 3 (by omega)
   have t4:wr.cell? ⟨g,k * 6+4,none⟩=some (.int .i64 m'.st):=hat 4 (by omega)
   have t5:wr.cell? ⟨g,k * 6+5,none⟩=some u':=hat 5 (by omega)
   have f0:=hR.out.ms.frozenAt (k * 6)
   have f1:=hR.out.ms.frozenAt (k * 6+1)
   have f2:=hR.out.ms.frozenAt (k * 6+2)
   have f3:=hR.out.ms.frozenAt (k * 6+3)
   have f4:=hR.out.ms.frozenAt (k * 6+4)
   have f5:=hR.out.ms.frozenAt (k * 6+5)
   have hkI:(k:Int)<(M:Int):=by omega
   have hnc:¬ W.heap.size=g:=by omega
   have hnd:¬ W.heap.size+1+1=g:=by omega
   have hnb:¬ bk=g:=by have:=hbk;omega
   clear hcell hat hmem
   go_wp2
   go_region
   have hR2:=hR.out.put hlt m (.slice ua m.n uc)
   generalize ((((((wr.setCell ⟨g,k * 6,none⟩ (.string m.nm)).setCell ⟨g,k * 6+1,none⟩ (.string m.ds)).setCell ⟨g,k * 6+2,none⟩ (.int .i64 m.fl)).setCell ⟨g,k * 6+3,none⟩ (.int .i64 m.lo)).setCell ⟨g,k * 6+4,none⟩ (.int .i64 m.st)).setCell ⟨g,k * 6+5,none⟩ (.slice ua m.n uc)).drew=W2 at *
   have HR2:Hid (CpR W W2 nm su fl ld ai0 (some ⟨bk,o,none⟩) ai ni ci0 capi M cm0 g xi pm (qm.set k (m,.slice ua m.n uc)) k):=hR2
   have hq2:(qm.set k (m,Value.slice ua m.n uc))[k]?=some (m,.slice ua m.n uc):=List.getElem?_set_self (by rw [hR.out.len];exact hlt)
   have c5':=cell_of_row W2 W.heap.size 5 _ _ _ hR2.bc
   have d5':=cell_of_row W2 (W.heap.size+1+1) 5 _ _ _ hR2.bd
   simp only [List.getElem?_toArray,List.getElem?_cons_zero,List.getElem?_cons_succ] at c5' d5'
   have q5':W2.cell? ⟨bk,o+k * 6+5,none⟩=some (.slice ua m.n uc):=(hR2.below.cell (p:=⟨bk,o+k * 6+5,none⟩) hbk).trans ((hR.out.below.cell (p:=⟨bk,o+k * 6+5,none⟩) hbk).symm.trans q5)
   obtain ⟨hgN2,hglt2⟩:=hR2.ms.lt g rfl
   have HQ2:Hid ((qm.set k (m,Value.slice ua m.n uc))[k]?=some (m,.slice ua m.n uc)):=hq2
   have hb2:W.heap.size+1+1+1≤W2.heap.size:=by omega
   have hbk2:bk<W2.heap.size:=by omega
   have hld2:W.heap.size+1+1<W2.heap.size:=by omega
   have hlc2:W.heap.size<W2.heap.size:=by omega
   obtain ⟨iI,hiI,hzI,hsI,hbI⟩:=info_parts Tryz.hinfo81
   have HCR:Hid (∀ w:World,Bw W2 w→Rdw w (.slice ua m.n uc) m.n 7 m.xs):=fun w hb=>hcr.keep (Zj HR2.out.below hb)
   have HC1:Hid (∀ u∈m.xs,u.oneCell'=true):=hc1
   have HKU:Hid (pm[k]?=some (m,.slice ua m.n uc)):=hku
   clear hq2 hR2 q0 q1 q2 q3 q4 q5 t0 t1 t2 t3 t4 t5 f0 f1 f2 f3 f4 f5 c5 d5 hqk hcr hc1 hku hR HM'
   go_wp2
   go_region_law
    (first
     | (refine Zah rfl (.tmp 35) (.tmp 41) 46 rfl (W.heap.size+1+1+1) 56 iI _ 7 _ Tryz.underlying46 hiI hzI hsI hbI rfl (by decide) (.slice (some ⟨W2.heap.size,0,none⟩) 0 0) 0 [] (by simp [Act.eval]) ((Qr W2 _ rfl _ _ _ hb2).drew) (.slice ua m.n uc) m.n m.xs (by simp [Act.eval]) (HCR.out _ ((Below.refl _ W2).alloc (Nat.le_refl _) _).drew) HC1.out (by unfold maxLen;omega) (by omega) (by simp;omega) ?_;intro v' w5 hown hgrow;obtain ⟨ac,cc,rfl⟩:=ownv hown;simp only [Nat.zero_add,List.nil_append] at hown ⊢;have B5:Hid (Bw W2 w5):=(Below.grown (w:=_) ((Below.refl _ W2).alloc (Nat.le_refl _) _).drew hgrow (by simp) (fun k hk=>by simp [Value.ownBlock] at hk;omega));have O5:Hid (w5.ownsRow (W.heap.size+1+1+1) 56 7 (.slice ac m.n cc) m.n m.xs):=hown;have y5:w5.cell? ⟨W.heap.size+1+1,5,none⟩=some (.slice (some ⟨g,0,none⟩) M M):=(B5.out.cell (p:=⟨W.heap.size+1+1,5,none⟩) hld2).trans d5';have x5:w5.cell? ⟨g,k * 6+5,none⟩=some (.slice ua m.n uc):=(B5.out.cell (p:=⟨g,k * 6+5,none⟩) hglt2).trans ((HR2.out.ms.cellAt (k * 6+5) (by omega)).trans (Zp _ k _ HQ2.out 5 (by omega)));have z5:w5.frozen? ⟨g,k * 6+5,none⟩=false:=(Zi HR2.out.ms B5.out).frozenAt (k * 6+5);clear hown hgrow))
   all_goals
    go_wp2
    go_roundw
    case rel=>exact ⟨k+1,_,by go_num,by omega,HR2.out.next HQ2.out HKU.out B5.out O5.out⟩
    case measure=>simp [intOf];omega
  ·have h1:=hR.out.br
   have h2:=hR.out.bd
   have d0:=cell_of_row wr (W.heap.size+1) 0 _ _ _ h1
   have e0:=frozen_of_row wr (W.heap.size+1) 0 _ _ h1
   have g0:=cell_of_row wr (W.heap.size+1+1) 0 _ _ _ h2
   have d1:=cell_of_row wr (W.heap.size+1) 1 _ _ _ h1
   have e1:=frozen_of_row wr (W.heap.size+1) 1 _ _ h1
   have g1:=cell_of_row wr (W.heap.size+1+1) 1 _ _ _ h2
   have d2:=cell_of_row wr (W.heap.size+1) 2 _ _ _ h1
   have e2:=frozen_of_row wr (W.heap.size+1) 2 _ _ h1
   have g2:=cell_of_row wr (W.heap.size+1+1) 2 _ _ _ h2
   have d3:=cell_of_row wr (W.heap.size+1) 3 _ _ _ h1
   have e3:=frozen_of_row wr (W.heap.size+1) 3 _ _ h1
   have g3:=cell_of_row wr (W.heap.size+1+1) 3 _ _ _ h2
   have d4:=cell_of_row wr (W.heap.size+1) 4 _ _ _ h1
   have e4:=frozen_of_row wr (W.heap.size+1) 4 _ _ h1
   have g4:=cell_of_row wr (W.heap.size+1+1) 4 _ _ _ h2
   have d5:=cell_of_row wr (W.heap.size+1) 5 _ _ _ h1
   have e5:=frozen_of_row wr (W.heap.size+1) 5 _ _ h1
   have g5:=cell_of_row wr (W.heap.size+1+1) 5 _ _ _ h2
   simp only [List.getElem?_toArray,List.getElem?_cons_zero,List.getElem?_cons_succ] at d0 d1 d2 d3 d4 d5 g0 g1 g2 g3 g4 g5
   have hkk:¬ (k:Int)<(M:Int):=by omega
   have hne:¬ W.heap.size+1+1=W.heap.size+1:=by omega
   have hkM:k=M:=by omega
   clear h1 h2
   go_wp2
   have hR6:=hR.out
   refine bodyPost_ret (v:=.agg #[.string nm,.string su,.slice ai ni capi,.int .i64 fl,.int .i64 ld,.slice (some ⟨g,0,none⟩) M M]) (by simp [results,Tryz.results27,go_sem, *]) rfl ⟨_,_,rfl,qm,⟨?_,?_,?_⟩,?_,?_⟩
   ·refine Go.Joins.ownsRow_le (base:=W.heap.size+1+1+1) ?_ (by omega)
    repeat (refine ownsRow_setCell_below ?_ (by simp) _)
    exact hR6.ifs
   ·refine Go.Joins.ownsRow_le (base:=W.heap.size+1+1+1) ?_ (by omega)
    repeat (refine ownsRow_setCell_below ?_ (by simp) _)
    rw [hR6.len]
    exact hR6.ms
   ·intro p hp
    obtain ⟨j,hj⟩:=List.getElem?_of_mem hp
    have hjl:=(List.getElem?_eq_some_iff.1 hj).1
    rw [hR6.len] at hjl
    refine Go.Joins.ownsRow_le (base:=W.heap.size+1+1+1) ?_ (by omega)
    repeat (refine ownsRow_setCell_below ?_ (by simp) _)
    exact hR6.old j p hj (by omega)
   ·refine List.ext_getElem? fun j=>?_
    rw [List.getElem?_map,List.getElem?_map]
    by_cases hj:j<M
    ·exact hR6.eq j (by omega)
    ·rw [List.getElem?_eq_none (by rw [hR6.len];omega),List.getElem?_eq_none (by rw [HML.out];omega)]
   ·repeat (refine Below.setCell ?_ (by simp) _)
    exact hR6.below
theorem Yo {U w5:World} {N e s:Nat} {v:Value} {n:Nat} {xs:List Value} {N' e' s':Nat} {v':Value} {n':Nat} {xs':List Value} (h:U.ownsRow N e s v n xs) (hr:U.ownsRow N' e' s' v' n' xs') (hg:U.grownBy w5 v'.ownBlock) (hne:e≠e'):w5.ownsRow N e s v n xs:=by
 rcases hr.2 with ⟨rfl,_⟩|⟨g,cap,cur,rfl,_,hc,_⟩
 ·exact h.kept hg (by cases v.ownBlock <;> simp [Value.ownBlock])
 ·exact h.kept hg (Ze h hc hne)
theorem Qd {w:World} {N e s:Nat} {v:Value} {n:Nat} {xs:List Value} (h:w.ownsRow N e s v n xs) {b:Nat} {cs:Array Value} {t:TypeId} (hb:w.heap[b]?=some (.cells cs t (0,0))) (hne:e≠t) (u:Value):(w.setCell ⟨b,0,none⟩ u).ownsRow N e s v n xs :=
 h.kept (Zn w b 0 u) (Ze h hb hne)
theorem RW.add {w U w5:World} {N b:Nat} {v v':Value} {rs:List CR} {r:CR} (h:RW w N b v rs) (hr:CrO w N r) (hst:Bw w U) (hg:U.grownBy w5 v.ownBlock) (ho:w5.ownsRow N 33 6 v' (rs.length+1) (Jm rs++crC r)) :
 w5.heap[b]?=some (.cells #[v] 74 (0,0))∧RW (w5.setCell ⟨b,0,none⟩ v') N b v' (rs++[r]):=by
 have hU:=h.below hst
 have hrU:=hr.below hst
 have hbne:some b≠v.ownBlock:=by
  rcases Ze hU.row hU.hb (by decide) with e|e
  ·rw [e];simp
  ·exact fun e2=>e e2.symm
 have hb5:w5.heap[b]?=some (.cells #[v] 74 (0,0)):=(hg.block b (Array.getElem?_eq_some_iff.1 hU.hb).1 hbne).trans hU.hb
 have cr:∀ q,CrO U N q→CrO (w5.setCell ⟨b,0,none⟩ v') N q:=by
  rintro q ⟨qm,h1,h2⟩
  refine ⟨qm,h1,?_,?_,fun p hp=>?_⟩
  ·exact Qd (Yo h2.ifs hU.row hg (by decide)) hb5 (by decide) _
  ·exact Qd (Yo h2.ms hU.row hg (by decide)) hb5 (by decide) _
  ·exact Qd (Yo (h2.cod p hp) hU.row hg (by decide)) hb5 (by decide) _
 refine ⟨hb5,heap_setCell_same w5 b 0 _ _ v' hb5,?_,?_,h.lb⟩
 ·have e1:(rs++[r]).length=rs.length+1:=by simp
  have e2:Jm (rs++[r])=Jm rs++crC r:=by simp [Jm]
  rw [e1,e2]
  exact Qd ho hb5 (by decide) _
 ·intro q hq
  rcases List.mem_append.1 hq with hq|hq
  ·exact cr q (hU.own q hq)
  ·rw [List.mem_singleton] at hq
   subst hq
   exact cr _ hrU
theorem RW.addn {w U w5:World} {N n b:Nat} {v v':Value} {rs:List CR} {r:CR} (h:RW w N b v rs) (hr:CrO w n r) (hst:Bw w U) (hg:U.grownBy w5 v.ownBlock):CrO (w5.setCell ⟨b,0,none⟩ v') n r:=by
 have hU:=h.below hst
 have hbne:some b≠v.ownBlock:=by
  rcases Ze hU.row hU.hb (by decide) with e|e
  ·rw [e];simp
  ·exact fun e2=>e e2.symm
 have hb5:w5.heap[b]?=some (.cells #[v] 74 (0,0)):=(hg.block b (Array.getElem?_eq_some_iff.1 hU.hb).1 hbne).trans hU.hb
 obtain ⟨qm,h1,h2⟩:=hr.below hst
 exact ⟨qm,h1,Qd (Yo h2.ifs hU.row hg (by decide)) hb5 (by decide) _,Qd (Yo h2.ms hU.row hg (by decide)) hb5 (by decide) _,fun p hp=>Qd (Yo (h2.cod p hp) hU.row hg (by decide)) hb5 (by decide) _⟩
theorem Zhs {w:World} {N e s:Nat} {v:Value} {n:Nat} {xs:List Value} (h:w.ownsRow N e s v n xs) {j:Nat} {o:Obj} (hj:w.heap[j]?=some o) (hno:∀ cs,o≠.cells cs e (0,0)):some j≠v.ownBlock:=by
 intro e1
 rcases h.2 with ⟨rfl,_⟩|⟨g,cap,cur,rfl,_,hc,_⟩
 ·simp [Value.ownBlock] at e1
 ·simp [Value.ownBlock] at e1
  subst e1
  rw [hj] at hc
  exact hno _ (Option.some.inj hc)
theorem RW.frame {w U w5:World} {N b:Nat} {v v':Value} {rs:List CR} (h:RW w N b v rs) (hst:Bw w U) (hg:U.grownBy w5 v.ownBlock) (j:Nat) (o:Obj) (hj:w.heap[j]?=some o) (hjb:j≠b) (hno:∀ cs,o≠.cells cs 33 (0,0)):(w5.setCell ⟨b,0,none⟩ v').heap[j]?=some o:=by
 have hl:j<w.heap.size:=(Array.getElem?_eq_some_iff.1 hj).1
 have hU:=h.below hst
 have h1:U.heap[j]?=some o:=(hst.block j hl).trans hj
 have h2:w5.heap[j]?=some o:=(hg.block j (Array.getElem?_eq_some_iff.1 h1).1 (Zhs hU.row h1 hno)).trans h1
 exact ((Zn w5 b 0 v').block j (Array.getElem?_eq_some_iff.1 h2).1 (by simpa using hjb)).trans h2
theorem Zit {w w1:World} {N:Nat} {c:Cls} {pm qm:List (HM×Value)} {vi' vm':Value} (hpm:pm.map Prod.fst=(hcOf c).ms) (hN:N≤w.heap.size) (ho:OwnC w1 w.heap.size vi' c.ifs.length (Z0 c.ifs) vm' qm) (hq:qm.map Prod.fst=pm.map Prod.fst):CrO w1 N ⟨c,vi',vm'⟩ :=
 ⟨qm,hq.trans hpm,Go.Joins.ownsRow_le ho.ifs hN,Go.Joins.ownsRow_le ho.ms hN,fun p hp=>Go.Joins.ownsRow_le (ho.cod p hp) hN⟩
end Go.Proofs.YtkoogmegdfpopaaGreat
