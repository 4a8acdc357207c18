import Derived.Test.YtkoogmegdfpopaaGreatHrX
import Derived.Test.YtkoogmegdfpopaaGreatHrOi
set_option maxRecDepth 100000
namespace Go.Proofs.YtkoogmegdfpopaaGreat
open Go.RowKit Go.Maps
def WAt (b:Nat) (ps:List Plc) (w:World):Prop:=∃ N mb vp pv,HW w N b mb ps vp pv
theorem HW.wat {w:World} {N b mb:Nat} {ps:List Plc} {vp:Value} {pv:List PV} (h:HW w N b mb ps vp pv):WAt b ps w:=⟨N,mb,vp,pv,h⟩
theorem WAt.below {b:Nat} {ps:List Plc} {w w':World} (h:WAt b ps w) (hb:Bw w w'):WAt b ps w':=by
 obtain ⟨N,mb,vp,pv,h⟩:=h
 exact ⟨N,mb,vp,pv,h.below hb⟩
def plcI (ps:List Plc) (i:Int):Option Plc:=if 0≤i then ps[i.toNat]? else none
theorem J6 (ps:List Plc) (k:Nat):plcI ps (k:Int)=ps[k]?:=by
 rw [plcI,if_pos (Int.natCast_nonneg k)];rfl
theorem Zu (ps:List Plc) (i:Int):(plcI ps i=none∧¬ (0≤i∧i<(ps.length:Int)))∨∃ (k:Nat) (q:Plc),i=(k:Int)∧ps[k]?=some q∧plcI ps i=some q:=by
 by_cases h:0≤i∧i<(ps.length:Int)
 ·obtain ⟨k,rfl⟩:∃ k:Nat,i=(k:Int):=⟨i.toNat,by omega⟩
  have hk:k<ps.length:=by omega
  exact .inr ⟨k,_,rfl,List.getElem?_eq_getElem hk,by rw [J6];exact List.getElem?_eq_getElem hk⟩
 ·refine .inl ⟨?_,h⟩
  unfold plcI
  by_cases h0:0≤i
  ·rw [if_pos h0];exact List.getElem?_eq_none (by omega)
  ·rw [if_neg h0]
theorem has_c {b:Nat} {ps:List Plc} {W:World} (h:WAt b ps W) (i:Int):Calls Tryz.prog 36 #[.pointer (some ⟨b,0,none⟩),.int .i64 i] W fun e w'=>e=.returned (.bool (plcI ps i).isSome)∧w'=W:=by
 obtain ⟨N,mb,vp,pv,h⟩:=h
 rcases Zu ps i with ⟨h1,h2⟩|⟨k,q,rfl,h2,h1⟩
 ·rw [h1];exact Zik h i h2
 ·rw [h1];exact Zaq h k (List.getElem?_eq_some_iff.1 h2).1
def Zcd (q:Plc) (i:Int):Option HM:=if 0≤i then q.c.ms[i.toNat]? else none
def Zdl (ps:List Plc) (c i:Int):Option HM:=(plcI ps c).bind fun q=>Zcd q i
def noM:Value:=.tuple #[.agg #[.string ⟨#[]⟩,.string ⟨#[]⟩,.int .i64 0,.int .i64 0,.int .i64 0,.slice none 0 0],.int .i64 3]
theorem Zid {b:Nat} {ps:List Plc} {W:World} (h:WAt b ps W) (c i:Int) (hq:plcI ps c=none):Calls Tryz.prog 16 #[.pointer (some ⟨b,0,none⟩),.agg #[.int .i64 c,.int .i64 i]] W fun e w'=>e=.returned noM∧Bw W w':=by
 have HX:Hid (∀ w:World,Bw W w→Calls Tryz.prog 36 #[.pointer (some ⟨b,0,none⟩),.int .i64 c] w fun e w'=>e=.returned (.bool false)∧w'=w):=fun w hb=>by
  have:=has_c (h.below hb) c
  rw [hq] at this
  exact this
 clear h hq
 go_enter Tryz.func16,Tryz.ntmps16
 go_wp2_with (go_at_call 36;refine (HX.out _ (((Below.refl _ _).alloc (Nat.le_refl _) _).alloc (by simp) _)).mono ?_;rintro e w9 ⟨rfl,hw9⟩;rw [hw9];clear hw9 w9)
 refine bodyPost_ret (v:=noM) (by simp [results,Tryz.results16,go_sem,noM]) rfl ⟨rfl,?_⟩
 repeat (first|exact Below.refl _ _|refine Below.setCell ?_ (by simp;try omega) _|refine Below.alloc ?_ (by simp;try omega) _)
theorem Zgy {b:Nat} {ps:List Plc} {W:World} (h:WAt b ps W) (c i:Int) (q:Plc) (hq:plcI ps c=some q) (m:HM) (hm:Zcd q i=some m) (hB:PlcB q):Calls Tryz.prog 16 #[.pointer (some ⟨b,0,none⟩),.agg #[.int .i64 c,.int .i64 i]] W fun e w'=>(∃ v,e=.returned (.tuple #[.agg #[.string m.nm,.string m.ds,.int .i64 m.fl,.int .i64 m.lo,.int .i64 m.st,v],.int .i64 0])∧w'.ownsRow W.heap.size 56 7 v m.n m.xs)∧Bw W w':=by
 have HX:Hid (∀ w:World,Bw W w→Calls Tryz.prog 36 #[.pointer (some ⟨b,0,none⟩),.int .i64 c] w fun e w'=>e=.returned (.bool true)∧w'=w):=fun w hb=>by
  have:=has_c (h.below hb) c
  rw [hq] at this
  exact this
 obtain ⟨N,mb,vp,pv,h⟩:=h
 rcases Zu ps c with ⟨h1,_⟩|⟨k,q',rfl,h2,h1⟩
 ·rw [h1] at hq;cases hq
 rw [h1] at hq
 cases hq
 clear h1
 obtain ⟨j,rfl,hmj⟩:∃ j:Nat,i=(j:Int)∧q.c.ms[j]?=some m:=by
  unfold Zcd at hm
  by_cases h0:0≤i
  ·rw [if_pos h0] at hm
   exact ⟨i.toNat,by omega,hm⟩
  ·rw [if_neg h0] at hm;cases hm
 clear hm
 have hkl:=(List.getElem?_eq_some_iff.1 h2).1
 obtain ⟨g,cap,p,rfl,hpl,hcell⟩:=h.at h2
 have b0:=cell_of_row W b 0 _ _ _ h.hb
 simp only [List.getElem?_toArray,List.getElem?_cons_zero] at b0
 obtain ⟨qm,hqm,hoc⟩:=hpl.own
 obtain ⟨⟨m',vc⟩,hmq,hme⟩:∃ x,qm[j]?=some x∧x.1=m:=by
  rw [← hqm,List.getElem?_map] at hmj
  cases e:qm[j]? with
  | none=>rw [e] at hmj;cases hmj
  | some x=>rw [e] at hmj;cases hmj;exact ⟨x,rfl,rfl⟩
 simp only at hme
 subst hme
 have hjl:=(List.getElem?_eq_some_iff.1 hmq).1
 have hjl2:j<q.c.ms.length:=(List.getElem?_eq_some_iff.1 hmj).1
 obtain ⟨gm,cm,hvm⟩:=Go.Joins.ownsRow_form hoc.ms (by omega)
 have hrow:=hoc.ms
 rw [hvm] at hrow
 have c5:W.cell? ⟨g,k * 8+5,none⟩=some (.slice (some ⟨gm,0,none⟩) qm.length cm):=by rw [← hvm];exact hcell 5 (by omega)
 have hat:=fun jj hj=>(hrow.cellAt (j * 6+jj) (by omega)).trans (Zp qm j _ hmq jj hj)
 have e0:W.cell? ⟨gm,j * 6,none⟩=some (.string m'.nm):=hat 0 (by omega)
 have e1:W.cell? ⟨gm,j * 6+1,none⟩=some (.string m'.ds):=hat 1 (by omega)
 have e2:W.cell? ⟨gm,j * 6+2,none⟩=some (.int .i64 m'.fl):=hat 2 (by omega)
 have e3:W.cell? ⟨gm,j * 6+3,none⟩=some (.int .i64 m'.lo):=hat 3 (by omega)
 have e4:W.cell? ⟨gm,j * 6+4,none⟩=some (.int .i64 m'.st):=hat 4 (by omega)
 have e5:W.cell? ⟨gm,j * 6+5,none⟩=some vc:=hat 5 (by omega)
 have hvc:W.ownsRow N 56 7 vc m'.n m'.xs:=hoc.cod _ (List.mem_of_getElem? hmq)
 obtain ⟨ac,cc,rfl⟩:=ownv hvc
 have hmb:=hB.cd m' (List.mem_of_getElem? hmj)
 have HC:Hid (∀ w:World,Bw W w→Calls Tryz.prog 41 #[.agg #[.string m'.nm,.string m'.ds,.int .i64 m'.fl,.int .i64 m'.lo,.int .i64 m'.st,.slice ac m'.n cc]] w fun e w'=>∃ v',e=.returned (.agg #[.string m'.nm,.string m'.ds,.int .i64 m'.fl,.int .i64 m'.lo,.int .i64 m'.st,v'])∧w'.ownsRow w.heap.size 56 7 v' m'.n m'.xs∧Bw w w'):=fun w hb=>Zd9 _ _ _ _ _ _ _ _ w (.inl ((Zw hvc).keep hb)) hmb.1 hmb.2
 have hkI:(k:Int)<(ps.length:Int):=by omega
 have hjI:(j:Int)<(qm.length:Int):=by omega
 have hlt:b<W.heap.size:=(Array.getElem?_eq_some_iff.1 h.hb).1
 have hgl:g<W.heap.size:=World.block_lt_of_cell? W _ c5
 have hgml:gm<W.heap.size:=World.block_lt_of_cell? W _ e0
 have hlm:¬ b=W.heap.size:=by omega
 have hgm:¬ g=W.heap.size:=by omega
 have hgm2:¬ gm=W.heap.size:=by omega
 clear hcell hpl h h2 hoc hvm hrow hat hvc hmb hqm hmj hmq hB hjl hjl2
 go_enter Tryz.func16,Tryz.ntmps16
 go_wp2_with (first
  | (go_at_call 36;refine (HX.out _ (((Below.refl _ _).alloc (Nat.le_refl _) _).alloc (by simp) _)).mono ?_;rintro e w9 ⟨rfl,hw9⟩;rw [hw9];clear hw9 w9))
 go_region
 all_goals
  go_wp2_with (first
   | (go_at_call 41;refine (HC.out _ ((((Below.refl _ _).alloc (Nat.le_refl _) _).alloc (by simp) _).drew)).mono ?_;rintro e w1 ⟨v',rfl,hown,hb⟩;obtain ⟨a',c',rfl⟩:=ownv hown;have O1:Hid (w1.ownsRow (W.heap.size+2) 56 7 (.slice a' m'.n c') m'.n m'.xs):=Go.Joins.ownsRow_le hown (by simp);have B1:Hid (Bw W w1):=Zj (((Below.refl _ _).alloc (Nat.le_refl _) _).alloc (by simp) _).drew hb;have h1:=(hb.block (W.heap.size+1) (by simp)).trans (heap_alloc2_new W _ _);have r0:=cell_of_row w1 (W.heap.size+1) 0 _ _ _ h1;have y0:=frozen_of_row w1 (W.heap.size+1) 0 _ _ h1;have r1:=cell_of_row w1 (W.heap.size+1) 1 _ _ _ h1;have y1:=frozen_of_row w1 (W.heap.size+1) 1 _ _ h1;have r2:=cell_of_row w1 (W.heap.size+1) 2 _ _ _ h1;have y2:=frozen_of_row w1 (W.heap.size+1) 2 _ _ h1;have r3:=cell_of_row w1 (W.heap.size+1) 3 _ _ _ h1;have y3:=frozen_of_row w1 (W.heap.size+1) 3 _ _ h1;have r4:=cell_of_row w1 (W.heap.size+1) 4 _ _ _ h1;have y4:=frozen_of_row w1 (W.heap.size+1) 4 _ _ h1;have r5:=cell_of_row w1 (W.heap.size+1) 5 _ _ _ h1;have y5:=frozen_of_row w1 (W.heap.size+1) 5 _ _ h1;simp only [List.getElem?_toArray,List.getElem?_cons_zero,List.getElem?_cons_succ] at r0 r1 r2 r3 r4 r5;clear hown hb h1 HC))
  refine bodyPost_ret (v:=.tuple #[.agg #[.string m'.nm,.string m'.ds,.int .i64 m'.fl,.int .i64 m'.lo,.int .i64 m'.st,.slice a' m'.n c'],.int .i64 0]) (by simp [results,Tryz.results16,go_sem, *]) rfl ⟨⟨_,rfl,?_⟩,?_⟩
  ·refine Go.Joins.ownsRow_le (base:=W.heap.size+2) ?_ (by omega)
   repeat (refine ownsRow_setCell_below ?_ (by simp) _)
   exact O1.out
  ·repeat (refine Below.setCell ?_ (by simp) _)
   exact B1.out
theorem Zgz {b:Nat} {ps:List Plc} {W:World} (h:WAt b ps W) (c i:Int) (q:Plc) (hq:plcI ps c=some q) (hm:Zcd q i=none):Calls Tryz.prog 16 #[.pointer (some ⟨b,0,none⟩),.agg #[.int .i64 c,.int .i64 i]] W fun e w'=>e=.returned noM∧Bw W w':=by
 have HX:Hid (∀ w:World,Bw W w→Calls Tryz.prog 36 #[.pointer (some ⟨b,0,none⟩),.int .i64 c] w fun e w'=>e=.returned (.bool true)∧w'=w):=fun w hb=>by
  have:=has_c (h.below hb) c
  rw [hq] at this
  exact this
 obtain ⟨N,mb,vp,pv,h⟩:=h
 rcases Zu ps c with ⟨h1,_⟩|⟨k,q',rfl,h2,h1⟩
 ·rw [h1] at hq;cases hq
 rw [h1] at hq
 cases hq
 clear h1
 have hkl:=(List.getElem?_eq_some_iff.1 h2).1
 obtain ⟨g,cap,p,rfl,hpl,hcell⟩:=h.at h2
 have b0:=cell_of_row W b 0 _ _ _ h.hb
 simp only [List.getElem?_toArray,List.getElem?_cons_zero] at b0
 obtain ⟨qm,hqm,hoc⟩:=hpl.own
 obtain ⟨am,cm,hvm⟩:=ownv hoc.ms
 have hlen:qm.length=q.c.ms.length:=by rw [← hqm];simp
 have c5:W.cell? ⟨g,k * 8+5,none⟩=some (.slice am q.c.ms.length cm):=by rw [← hlen,← hvm];exact hcell 5 (by omega)
 have hkI:(k:Int)<(ps.length:Int):=by omega
 have hlt:b<W.heap.size:=(Array.getElem?_eq_some_iff.1 h.hb).1
 have hgl:g<W.heap.size:=World.block_lt_of_cell? W _ c5
 have hlm:¬ b=W.heap.size:=by omega
 have hgm:¬ g=W.heap.size:=by omega
 have hi:¬ (0≤i∧i<(q.c.ms.length:Int)):=fun ⟨h0,h3⟩=>by
  unfold Zcd at hm
  rw [if_pos h0,List.getElem?_eq_none_iff] at hm
  omega
 clear hcell hpl h h2 hoc hvm hqm hlen hm
 by_cases h0:i<0
 ·clear hi
  go_enter Tryz.func16,Tryz.ntmps16
  go_wp2_with (first
   | (go_at_call 36;refine (HX.out _ (((Below.refl _ _).alloc (Nat.le_refl _) _).alloc (by simp) _)).mono ?_;rintro e w9 ⟨rfl,hw9⟩;rw [hw9];clear hw9 w9))
  go_region
  all_goals
   go_wp2
   refine bodyPost_ret (v:=noM) (by simp [results,Tryz.results16,go_sem,noM]) rfl ⟨rfl,?_⟩
   repeat (first|exact Below.refl _ _|refine Below.setCell ?_ (by simp;try omega) _|refine Below.alloc ?_ (by simp;try omega) _|refine Below.drew ?_)
 ·have h3:¬ i<(q.c.ms.length:Int):=fun hh=>hi ⟨by omega,hh⟩
  have h4:(q.c.ms.length:Int)≤i:=by omega
  clear hi h3
  go_enter Tryz.func16,Tryz.ntmps16
  go_wp2_with (first
   | (go_at_call 36;refine (HX.out _ (((Below.refl _ _).alloc (Nat.le_refl _) _).alloc (by simp) _)).mono ?_;rintro e w9 ⟨rfl,hw9⟩;rw [hw9];clear hw9 w9))
  go_region
  all_goals
   go_wp2
   refine bodyPost_ret (v:=noM) (by simp [results,Tryz.results16,go_sem,noM]) rfl ⟨rfl,?_⟩
   repeat (first|exact Below.refl _ _|refine Below.setCell ?_ (by simp;try omega) _|refine Below.alloc ?_ (by simp;try omega) _|refine Below.drew ?_)
def MthR (n:Nat):Option HM→Ending→World→Prop
 | none,e,_=>e=.returned noM
 | some m,e,w'=>∃ v,e=.returned (.tuple #[.agg #[.string m.nm,.string m.ds,.int .i64 m.fl,.int .i64 m.lo,.int .i64 m.st,v],.int .i64 0])∧w'.ownsRow n 56 7 v m.n m.xs
theorem method_c {b:Nat} {ps:List Plc} {W:World} (h:WAt b ps W) (hB:∀ q∈ps,PlcB q) (c i:Int):Calls Tryz.prog 16 #[.pointer (some ⟨b,0,none⟩),.agg #[.int .i64 c,.int .i64 i]] W fun e w'=>MthR W.heap.size (Zdl ps c i) e w'∧Bw W w':=by
 cases hq:plcI ps c with
 | none =>
   have e:Zdl ps c i=none:=by rw [Zdl,hq];rfl
   rw [e]
   exact Zid h c i hq
 | some q =>
   have e:Zdl ps c i=Zcd q i:=by rw [Zdl,hq];rfl
   rw [e]
   cases hm:Zcd q i with
   | none=>exact Zgz h c i q hq hm
   | some m =>
     refine Zgy h c i q hq m hm (hB q ?_)
     rcases Zu ps c with ⟨h1,_⟩|⟨k,q',rfl,h2,h1⟩
     ·rw [h1] at hq;cases hq
     ·rw [h1] at hq;cases hq;exact List.mem_of_getElem? h2
theorem class_of' (C:World→Prop) (h:∃ w,C w):∃ (σ:Type) (V:σ→World),Nonempty σ∧Hid (∀ s,C (V s))∧Hid (∀ w,C w→∃ s,w=V s) :=
 ⟨{w // C w},Subtype.val,h.elim fun w hw=>⟨⟨w,hw⟩⟩,fun s=>s.2,fun w hw=>⟨⟨w,hw⟩,rfl⟩⟩
end Go.Proofs.YtkoogmegdfpopaaGreat
