import Derived.Test.YtmafkabjjibcbaaGreatHrX
import Derived.Test.YtmafkabjjibcbaaGreatCurD
set_option maxHeartbeats 4000000
set_option maxRecDepth 100000
namespace Go.Proofs.YtmafkabjjibcbaaGreat
open Go.RowKit Go.Maps
def WAt (b:Nat) (ps:List Plc) (w:World):Prop:=∃ N mb vp pv,HW w N b mb ps vp pv
theorem HW.wat {w:World} {N b mb:Nat} {ps:List Plc} {vp:Value} {pv:List PV} (h:HW w N b mb ps vp pv):WAt b ps w:=⟨N,mb,vp,pv,h⟩
theorem WAt.below {b:Nat} {ps:List Plc} {w w':World} (h:WAt b ps w) (hb:Bw w w'):WAt b ps w':=by
 obtain ⟨N,mb,vp,pv,h⟩:=h
 exact ⟨N,mb,vp,pv,h.below hb⟩
def plcI (ps:List Plc) (i:Int):Option Plc:=if 0≤i then ps[i.toNat]? else none
theorem Z5 (ps:List Plc) (k:Nat):plcI ps (k:Int)=ps[k]?:=by
 rw [plcI,if_pos (Int.natCast_nonneg k)];rfl
theorem Zl (ps:List Plc) (i:Int):(plcI ps i=none∧¬ (0≤i∧i<(ps.length:Int)))∨∃ (k:Nat) (q:Plc),i=(k:Int)∧ps[k]?=some q∧plcI ps i=some q:=by
 by_cases h:0≤i∧i<(ps.length:Int)
 ·obtain ⟨k,rfl⟩:∃ k:Nat,i=(k:Int):=⟨i.toNat,by omega⟩
  have hk:k<ps.length:=by omega
  exact .inr ⟨k,_,rfl,List.getElem?_eq_getElem hk,by rw [Z5];exact List.getElem?_eq_getElem hk⟩
 ·refine .inl ⟨?_,h⟩
  unfold plcI
  by_cases h0:0≤i
  ·rw [if_pos h0];exact List.getElem?_eq_none (by omega)
  ·rw [if_neg h0]
theorem Zbb {b:Nat} {ps:List Plc} {W:World} (h:WAt b ps W) (i:Int):Calls Tryz.prog 106 #[.pointer (some ⟨b,0,none⟩),.int .i64 i] W fun e w'=>e=.returned (.bool (plcI ps i).isSome)∧w'=W:=by
 obtain ⟨N,mb,vp,pv,h⟩:=h
 rcases Zl ps i with ⟨h1,h2⟩|⟨k,q,rfl,h2,h1⟩
 ·rw [h1];exact Zic h i h2
 ·rw [h1];exact Jh h k (List.getElem?_eq_some_iff.1 h2).1
def Y2 (q:Plc) (i:Int):Option HM:=if 0≤i then q.c.ms[i.toNat]? else none
def Zm (ps:List Plc) (c i:Int):Option HM:=(plcI ps c).bind fun q=>Y2 q i
def noM:Value:=.tuple #[.agg #[.string ⟨#[]⟩,.string ⟨#[]⟩,.int .i64 0,.int .i64 0,.int .i64 0,.slice none 0 0],.int .i64 3]
theorem Zk9 {b:Nat} {ps:List Plc} {W:World} (h:WAt b ps W) (c i:Int) (hq:plcI ps c=none):Calls Tryz.prog 46 #[.pointer (some ⟨b,0,none⟩),.agg #[.int .i64 c,.int .i64 i]] W fun e w'=>e=.returned noM∧Bw W w':=by
 have HX:Hid (∀ w:World,Bw W w→Calls Tryz.prog 106 #[.pointer (some ⟨b,0,none⟩),.int .i64 c] w fun e w'=>e=.returned (.bool false)∧w'=w):=fun w hb=>by
  have:=Zbb (h.below hb) c
  rw [hq] at this
  exact this
 clear h hq
 go_enter Tryz.func46,Tryz.ntmps46
 go_wp2_with (go_at_call 106;refine (HX.out _ (((Below.refl _ _).alloc (Nat.le_refl _) _).alloc (by simp) _)).mono ?_;rintro e w9 ⟨rfl,hw9⟩;rw [hw9];clear hw9 w9)
 refine bodyPost_ret (v:=noM) (by simp [results,Tryz.results46,go_sem,noM]) rfl ⟨rfl,?_⟩
 repeat (first|exact Below.refl _ _|refine Below.setCell ?_ (by simp;try omega) _|refine Below.alloc ?_ (by simp;try omega) _)
theorem Zji {b:Nat} {ps:List Plc} {W:World} (h:WAt b ps W) (c i:Int) (q:Plc) (hq:plcI ps c=some q) (m:HM) (hm:Y2 q i=some m) (hB:PlcB q):Calls Tryz.prog 46 #[.pointer (some ⟨b,0,none⟩),.agg #[.int .i64 c,.int .i64 i]] W fun e w'=>(∃ v,e=.returned (.tuple #[.agg #[.string m.nm,.string m.ds,.int .i64 m.fl,.int .i64 m.lo,.int .i64 m.st,v],.int .i64 0])∧w'.ownsRow W.heap.size 91 7 v m.n m.xs)∧Bw W w':=by
 have HX:Hid (∀ w:World,Bw W w→Calls Tryz.prog 106 #[.pointer (some ⟨b,0,none⟩),.int .i64 c] w fun e w'=>e=.returned (.bool true)∧w'=w):=fun w hb=>by
  have:=Zbb (h.below hb) c
  rw [hq] at this
  exact this
 obtain ⟨N,mb,vp,pv,h⟩:=h
 rcases Zl ps c with ⟨h1,_⟩|⟨k,q',rfl,h2,h1⟩
 ·rw [h1] at hq;cases hq
 rw [h1] at hq
 cases hq
 clear h1
 obtain ⟨j,rfl,hmj⟩:∃ j:Nat,i=(j:Int)∧q.c.ms[j]?=some m:=by
  unfold Y2 at hm
  by_cases h0:0≤i
  ·rw [if_pos h0] at hm
   exact ⟨i.toNat,by omega,hm⟩
  ·rw [if_neg h0] at hm;cases hm
 clear hm
 have hkl:=(List.getElem?_eq_some_iff.1 h2).1
 obtain ⟨g,cap,p,rfl,hpl,hcell⟩:=h.at h2
 have b0:=cell_of_row W b 0 _ _ _ h.hb
 simp only [List.getElem?_toArray,List.getElem?_cons_zero] at b0
 obtain ⟨qm,hqm,hoc⟩:=hpl.own
 obtain ⟨⟨m',vc⟩,hmq,hme⟩:∃ x,qm[j]?=some x∧x.1=m:=by
  rw [← hqm,List.getElem?_map] at hmj
  cases e:qm[j]? with
  | none=>rw [e] at hmj;cases hmj
  | some x=>rw [e] at hmj;cases hmj;exact ⟨x,rfl,rfl⟩
 simp only at hme
 subst hme
 have hjl:=(List.getElem?_eq_some_iff.1 hmq).1
 have hjl2:j<q.c.ms.length:=(List.getElem?_eq_some_iff.1 hmj).1
 obtain ⟨gm,cm,hvm⟩:=Go.Joins.ownsRow_form hoc.ms (by omega)
 have hrow:=hoc.ms
 rw [hvm] at hrow
 have c5:W.cell? ⟨g,k * 8+5,none⟩=some (.slice (some ⟨gm,0,none⟩) qm.length cm):=by rw [← hvm];exact hcell 5 (by omega)
 have hat:=fun jj hj=>(hrow.cellAt (j * 6+jj) (by omega)).trans (Zy qm j _ hmq jj hj)
 have e0:W.cell? ⟨gm,j * 6,none⟩=some (.string m'.nm):=hat 0 (by omega)
 have e1:W.cell? ⟨gm,j * 6+1,none⟩=some (.string m'.ds):=hat 1 (by omega)
 have e2:W.cell? ⟨gm,j * 6+2,none⟩=some (.int .i64 m'.fl):=hat 2 (by omega)
 have e3:W.cell? ⟨gm,j * 6+3,none⟩=some (.int .i64 m'.lo):=hat 3 (by omega)
 have e4:W.cell? ⟨gm,j * 6+4,none⟩=some (.int .i64 m'.st):=hat 4 (by omega)
 have e5:W.cell? ⟨gm,j * 6+5,none⟩=some vc:=hat 5 (by omega)
 have hvc:W.ownsRow N 91 7 vc m'.n m'.xs:=hoc.cod _ (List.mem_of_getElem? hmq)
 obtain ⟨ac,cc,rfl⟩:=ownv hvc
 have hmb:=hB.cd m' (List.mem_of_getElem? hmj)
 have HC:Hid (∀ w:World,Bw W w→Calls Tryz.prog 110 #[.agg #[.string m'.nm,.string m'.ds,.int .i64 m'.fl,.int .i64 m'.lo,.int .i64 m'.st,.slice ac m'.n cc]] w fun e w'=>∃ v',e=.returned (.agg #[.string m'.nm,.string m'.ds,.int .i64 m'.fl,.int .i64 m'.lo,.int .i64 m'.st,v'])∧w'.ownsRow w.heap.size 91 7 v' m'.n m'.xs∧Bw w w'):=fun w hb=>Zgm _ _ _ _ _ _ _ _ w (.inl ((Ya hvc).keep hb)) hmb.1 hmb.2
 have hkI:(k:Int)<(ps.length:Int):=by omega
 have hjI:(j:Int)<(qm.length:Int):=by omega
 have hlt:b<W.heap.size:=(Array.getElem?_eq_some_iff.1 h.hb).1
 have hgl:g<W.heap.size:=World.block_lt_of_cell? W _ c5
 have hgml:gm<W.heap.size:=World.block_lt_of_cell? W _ e0
 have hlm:¬ b=W.heap.size:=by omega
 have hgm:¬ g=W.heap.size:=by omega
 have hgm2:¬ gm=W.heap.size:=by omega
 clear hcell hpl h h2 hoc hvm hrow hat hvc hmb hqm hmj hmq hB hjl hjl2
 go_enter Tryz.func46,Tryz.ntmps46
 go_wp2_with (first
  | (go_at_call 106;refine (HX.out _ (((Below.refl _ _).alloc (Nat.le_refl _) _).alloc (by simp) _)).mono ?_;rintro e w9 ⟨rfl,hw9⟩;rw [hw9];clear hw9 w9))
 go_region
 all_goals
  go_wp2_with (first
   | (go_at_call 110;refine (HC.out _ ((((Below.refl _ _).alloc (Nat.le_refl _) _).alloc (by simp) _).drew)).mono ?_;rintro e w1 ⟨v',rfl,hown,hb⟩;obtain ⟨a',c',rfl⟩:=ownv hown;have O1:Hid (w1.ownsRow (W.heap.size+2) 91 7 (.slice a' m'.n c') m'.n m'.xs):=Go.Joins.ownsRow_le hown (by simp);have B1:Hid (Bw W w1):=Zb (((Below.refl _ _).alloc (Nat.le_refl _) _).alloc (by simp) _).drew hb;have h1:=(hb.block (W.heap.size+1) (by simp)).trans (heap_alloc2_new W _ _);have r0:=cell_of_row w1 (W.heap.size+1) 0 _ _ _ h1;have y0:=frozen_of_row w1 (W.heap.size+1) 0 _ _ h1;have r1:=cell_of_row w1 (W.heap.size+1) 1 _ _ _ h1;have y1:=frozen_of_row w1 (W.heap.size+1) 1 _ _ h1;have r2:=cell_of_row w1 (W.heap.size+1) 2 _ _ _ h1;have y2:=frozen_of_row w1 (W.heap.size+1) 2 _ _ h1;have r3:=cell_of_row w1 (W.heap.size+1) 3 _ _ _ h1;have y3:=frozen_of_row w1 (W.heap.size+1) 3 _ _ h1;have r4:=cell_of_row w1 (W.heap.size+1) 4 _ _ _ h1;have y4:=frozen_of_row w1 (W.heap.size+1) 4 _ _ h1;have r5:=cell_of_row w1 (W.heap.size+1) 5 _ _ _ h1;have y5:=frozen_of_row w1 (W.heap.size+1) 5 _ _ h1;simp only [List.getElem?_toArray,List.getElem?_cons_zero,List.getElem?_cons_succ] at r0 r1 r2 r3 r4 r5;clear hown hb h1 HC))
  refine bodyPost_ret (v:=.tuple #[.agg #[.string m'.nm,.string m'.ds,.int .i64 m'.fl,.int .i64 m'.lo,.int .i64 m'.st,.slice a' m'.n c'],.int .i64 0]) (by simp [results,Tryz.results46,go_sem, *]) rfl ⟨⟨_,rfl,?_⟩,?_⟩
  ·refine Go.Joins.ownsRow_le (base:=W.heap.size+2) ?_ (by omega)
   repeat (refine ownsRow_setCell_below ?_ (by simp) _)
   exact O1.out
  ·repeat (refine Below.setCell ?_ (by simp) _)
   exact B1.out
theorem Zjj {b:Nat} {ps:List Plc} {W:World} (h:WAt b ps W) (c i:Int) (q:Plc) (hq:plcI ps c=some q) (hm:Y2 q i=none):Calls Tryz.prog 46 #[.pointer (some ⟨b,0,none⟩),.agg #[.int .i64 c,.int .i64 i]] W fun e w'=>e=.returned noM∧Bw W w':=by
 have HX:Hid (∀ w:World,Bw W w→Calls Tryz.prog 106 #[.pointer (some ⟨b,0,none⟩),.int .i64 c] w fun e w'=>e=.returned (.bool true)∧w'=w):=fun w hb=>by
  have:=Zbb (h.below hb) c
  rw [hq] at this
  exact this
 obtain ⟨N,mb,vp,pv,h⟩:=h
 rcases Zl ps c with ⟨h1,_⟩|⟨k,q',rfl,h2,h1⟩
 ·rw [h1] at hq;cases hq
 rw [h1] at hq
 cases hq
 clear h1
 have hkl:=(List.getElem?_eq_some_iff.1 h2).1
 obtain ⟨g,cap,p,rfl,hpl,hcell⟩:=h.at h2
 have b0:=cell_of_row W b 0 _ _ _ h.hb
 simp only [List.getElem?_toArray,List.getElem?_cons_zero] at b0
 obtain ⟨qm,hqm,hoc⟩:=hpl.own
 obtain ⟨am,cm,hvm⟩:=ownv hoc.ms
 have hlen:qm.length=q.c.ms.length:=by rw [← hqm];simp
 have c5:W.cell? ⟨g,k * 8+5,none⟩=some (.slice am q.c.ms.length cm):=by rw [← hlen,← hvm];exact hcell 5 (by omega)
 have hkI:(k:Int)<(ps.length:Int):=by omega
 have hlt:b<W.heap.size:=(Array.getElem?_eq_some_iff.1 h.hb).1
 have hgl:g<W.heap.size:=World.block_lt_of_cell? W _ c5
 have hlm:¬ b=W.heap.size:=by omega
 have hgm:¬ g=W.heap.size:=by omega
 have hi:¬ (0≤i∧i<(q.c.ms.length:Int)):=fun ⟨h0,h3⟩=>by
  unfold Y2 at hm
  rw [if_pos h0,List.getElem?_eq_none_iff] at hm
  omega
 clear hcell hpl h h2 hoc hvm hqm hlen hm
 by_cases h0:i<0
 ·clear hi
  go_enter Tryz.func46,Tryz.ntmps46
  go_wp2_with (first
   | (go_at_call 106;refine (HX.out _ (((Below.refl _ _).alloc (Nat.le_refl _) _).alloc (by simp) _)).mono ?_;rintro e w9 ⟨rfl,hw9⟩;rw [hw9];clear hw9 w9))
  go_region
  all_goals
   go_wp2
   refine bodyPost_ret (v:=noM) (by simp [results,Tryz.results46,go_sem,noM]) rfl ⟨rfl,?_⟩
   repeat (first|exact Below.refl _ _|refine Below.setCell ?_ (by simp;try omega) _|refine Below.alloc ?_ (by simp;try omega) _|refine Below.drew ?_)
 ·have h3:¬ i<(q.c.ms.length:Int):=fun hh=>hi ⟨by omega,hh⟩
  have h4:(q.c.ms.length:Int)≤i:=by omega
  clear hi h3
  go_enter Tryz.func46,Tryz.ntmps46
  go_wp2_with (first
   | (go_at_call 106;refine (HX.out _ (((Below.refl _ _).alloc (Nat.le_refl _) _).alloc (by simp) _)).mono ?_;rintro e w9 ⟨rfl,hw9⟩;rw [hw9];clear hw9 w9))
  go_region
  all_goals
   go_wp2
   refine bodyPost_ret (v:=noM) (by simp [results,Tryz.results46,go_sem,noM]) rfl ⟨rfl,?_⟩
   repeat (first|exact Below.refl _ _|refine Below.setCell ?_ (by simp;try omega) _|refine Below.alloc ?_ (by simp;try omega) _|refine Below.drew ?_)
def MthR (n:Nat):Option HM→Ending→World→Prop
 | none,e,_=>e=.returned noM
 | some m,e,w'=>∃ v,e=.returned (.tuple #[.agg #[.string m.nm,.string m.ds,.int .i64 m.fl,.int .i64 m.lo,.int .i64 m.st,v],.int .i64 0])∧w'.ownsRow n 91 7 v m.n m.xs
theorem Jz {b:Nat} {ps:List Plc} {W:World} (h:WAt b ps W) (hB:∀ q∈ps,PlcB q) (c i:Int):Calls Tryz.prog 46 #[.pointer (some ⟨b,0,none⟩),.agg #[.int .i64 c,.int .i64 i]] W fun e w'=>MthR W.heap.size (Zm ps c i) e w'∧Bw W w':=by
 cases hq:plcI ps c with
 | none =>
   have e:Zm ps c i=none:=by rw [Zm,hq];rfl
   rw [e]
   exact Zk9 h c i hq
 | some q =>
   have e:Zm ps c i=Y2 q i:=by rw [Zm,hq];rfl
   rw [e]
   cases hm:Y2 q i with
   | none=>exact Zjj h c i q hq hm
   | some m =>
     refine Zji h c i q hq m hm (hB q ?_)
     rcases Zl ps c with ⟨h1,_⟩|⟨k,q',rfl,h2,h1⟩
     ·rw [h1] at hq;cases hq
     ·rw [h1] at hq;cases hq;exact List.mem_of_getElem? h2
theorem Yv (nm su:ByteArray) (fl ld:Int) (vi vm:Value) (W:World) (hs:nm.size≤maxLen):Calls Tryz.prog 223 #[.agg #[.string nm,.string su,vi,.int .i64 fl,.int .i64 ld,vm]] W fun e w'=>e=.returned (.agg #[.int .i64 ld,.string ⟨(pkgL nm.data.toList).toArray⟩])∧Bw W w':=by
 have HP:Hid (∀ w:World,Calls Tryz.prog 265 #[.string nm] w fun e w'=>e=.returned (.string ⟨(pkgL nm.data.toList).toArray⟩)∧w'=w):=fun w=>Zg2 nm hs w
 generalize (⟨(pkgL nm.data.toList).toArray⟩:ByteArray)=pk at *
 clear hs
 go_enter Tryz.func223,Tryz.ntmps223
 go_wp2
 go_region_held3 (fun w'=>w'.cell? ⟨W.heap.size,0,none⟩=some (.string nm)∧w'.cell? ⟨W.heap.size,4,none⟩=some (.int .i64 ld)) (go_keep) (first|(go_at_call 265;refine (HP.out _).mono ?_;rintro e w9 ⟨rfl,hw9⟩;rw [hw9];clear hw9 w9))
 go_wp2
 refine bodyPost_ret (v:=.agg #[.int .i64 ld,.string pk]) (by simp [results,Tryz.results223,go_sem]) rfl ⟨rfl,?_⟩
 exact (((Below.refl _ _).alloc (Nat.le_refl _) _).alloc (by simp) _).drew
def Je (p:Plc):List UInt8:=p.c.nm.data.toList
def Q8 (key:List UInt8) (k:Nat):List Plc→Option Nat
 | []=>none
 | p::r=>match Q8 key (k+1) r with
   | some j=>some j
   | none=>if Je p=key then some k else none
def Yd (ps:List Plc) (key:List UInt8):Option Nat:=Q8 key 0 ps
theorem Zbg (key:List UInt8) (ps:List Plc) (D:DataW Unit) (k:Nat) (hD:IsMap D):Maps.has (Zfp D k ps) (.string key)=((Q8 key k ps).isSome||Maps.has D (.string key)):=by
 induction ps generalizing D k with
 | nil=>rfl
 | cons p r ih =>
   rw [Zfp,ih _ _ (hD.put _ _),Q8]
   cases hl:Q8 key (k+1) r with
   | some j=>rfl
   | none =>
     by_cases hn:Je p=key
     ·rw [if_pos hn]
      have e:Maps.has (D.put (.string p.c.nm.data.toList) (.lit (.int .i64 (k:Int)))) (.string key)=true:=by
       rw [← hn];exact has_put_same hD (k:=.string p.c.nm.data.toList) (show WideAt.IsKeyLit (.string p.c.nm.data.toList) from trivial) _
      rw [e];rfl
     ·rw [if_neg hn,has_put_other (fun e=>hn (by injection e with e;exact e.symm))]
theorem Zk5 (key:List UInt8) (z:DataW Unit) (ps:List Plc) (D:DataW Unit) (k:Nat) (hD:IsMap D):(Zfp D k ps).atKey (.string key) z=(match Q8 key k ps with|some j=>.lit (.int .i64 (j:Int))|none=>D.atKey (.string key) z):=by
 induction ps generalizing D k with
 | nil=>rfl
 | cons p r ih =>
   rw [Zfp,ih _ _ (hD.put _ _),Q8]
   cases hl:Q8 key (k+1) r with
   | some j=>rfl
   | none =>
     by_cases hn:Je p=key
     ·rw [if_pos hn]
      show (D.put (.string p.c.nm.data.toList) (.lit (.int .i64 (k:Int)))).atKey (.string key) z=_
      rw [← hn];exact atKey_put_same hD (k:=.string p.c.nm.data.toList) (show WideAt.IsKeyLit (.string p.c.nm.data.toList) from trivial) _ _
     ·rw [if_neg hn]
      exact atKey_put_other (fun e=>hn (by injection e with e;exact e.symm)) _ _
theorem look_lt (key:List UInt8) (ps:List Plc) (k j:Nat) (h:Q8 key k ps=some j):k≤j∧∃ q,ps[j - k]?=some q∧Je q=key:=by
 induction ps generalizing k with
 | nil=>cases h
 | cons p r ih =>
   rw [Q8] at h
   cases hl:Q8 key (k+1) r with
   | some i =>
     rw [hl] at h
     cases h
     obtain ⟨h1,q,h2,h3⟩:=ih _ hl
     refine ⟨by omega,q,?_,h3⟩
     rw [show j - k=(j - (k+1))+1 by omega,List.getElem?_cons_succ]
     exact h2
   | none =>
     rw [hl] at h
     by_cases hn:Je p=key
     ·rw [if_pos hn] at h
      cases h
      exact ⟨Nat.le_refl _,p,by simp,hn⟩
     ·rw [if_neg hn] at h;cases h
theorem fits_any (N b mb bw bc:Nat) (ps:List Plc) (vp:Value) (pv:List PV) (k:Nat) (q:Plc) (nm su:ByteArray) (fl ld:Int) (vi vm:Value) (W:World) (h:HW W N b mb ps vp pv) (hq:ps[k]?=some q)
 (hw:W.heap[bw]?=some (.cells #[.pointer (some ⟨b,0,none⟩)] 24 (0,0))) (hc:W.heap[bc]?=some (.cells #[.string nm,.string su,vi,.int .i64 fl,.int .i64 ld,vm] 73 (0,0))) :
 Calls Tryz.prog 164 #[.int .i64 (k:Int),.pointer (some ⟨bw,0,none⟩),.pointer (some ⟨bc,0,none⟩)] W fun e w'=>e=.returned (.bool (!ifB q.c.fl&&(decide (k=0)||!ifB fl)))∧Bw W w':=by
 have HI:Hid (Calls Tryz.prog 116 #[.pointer (some ⟨b,0,none⟩),.int .i64 (k:Int)] W fun e w'=>e=.returned (.bool (ifB q.c.fl))∧Bw W w'):=Qn N b mb ps vp pv k q W h hq
 have HJ:Hid (∀ w:World,Calls Tryz.prog 165 #[.agg #[.string nm,.string su,vi,.int .i64 fl,.int .i64 ld,vm]] w fun e w'=>e=.returned (.bool (ifB fl))∧Bw w w'):=fun w=>Zb5 nm su fl ld vi vm w
 have w0:=cell_of_row W bw 0 _ _ _ hw
 simp only [List.getElem?_toArray,List.getElem?_cons_zero] at w0
 have HC:Hid (W.heap[bc]?=some (.cells #[.string nm,.string su,vi,.int .i64 fl,.int .i64 ld,vm] 73 (0,0))):=hc
 have hlt:bc<W.heap.size:=(Array.getElem?_eq_some_iff.1 hc).1
 generalize ifB q.c.fl=zq at *
 generalize ifB fl=zf at *
 clear h hq hw hc
 by_cases hz:k=0
 ·subst hz
  cases zq <;> cases zf <;>
  ·go_enter Tryz.func164,Tryz.ntmps164
   go_wp2_with (first
    | (go_at_call 116;refine HI.out.mono ?_;rintro e w1 ⟨rfl,hb⟩;have B1:Hid (Bw W w1):=hb;clear hb HI)
    | (go_at_call 165;refine (HJ.out _).mono ?_;rintro e w2 ⟨rfl,hb⟩;have B2:Hid (Bw W w2):=Zb B1.out hb;clear hb HJ))
   exact bodyPost_ret (results_tmp rfl _ _ _) rfl ⟨rfl,by first|exact B1.out|exact B2.out⟩
 ·have hz2:¬ (k:Int)=0:=by omega
  have hz3:decide (k=0)=false:=decide_eq_false hz
  cases zq <;> cases zf <;>
  ·go_enter Tryz.func164,Tryz.ntmps164
   go_wp2_with (first
    | (go_at_call 116;refine HI.out.mono ?_;rintro e w1 ⟨rfl,hb⟩;have B1:Hid (Bw W w1):=hb;have hc1:=(hb.block bc hlt).trans HC.out;have c0:=cell_of_row w1 bc 0 _ _ _ hc1;have c1:=cell_of_row w1 bc 1 _ _ _ hc1;have c2:=cell_of_row w1 bc 2 _ _ _ hc1;have c3:=cell_of_row w1 bc 3 _ _ _ hc1;have c4:=cell_of_row w1 bc 4 _ _ _ hc1;have c5:=cell_of_row w1 bc 5 _ _ _ hc1;simp only [List.getElem?_toArray,List.getElem?_cons_zero,List.getElem?_cons_succ] at c0 c1 c2 c3 c4 c5;clear hb HI hc1)
    | (go_at_call 165;refine (HJ.out _).mono ?_;rintro e w2 ⟨rfl,hb⟩;have B2:Hid (Bw W w2):=Zb B1.out hb;clear hb HJ))
   exact bodyPost_ret (results_tmp rfl _ _ _) rfl ⟨by first|rfl|(rw [hz3];rfl)|(simp [hz];done),by first|exact B2.out|exact B1.out⟩
theorem Qo (w:World) (o:Obj):(w.alloc o).heap[w.heap.size]?=some o:=by unfold World.alloc;simp
def pubB (fl:Int):Bool:=bits .and .i64 fl 1 != 0
def Qf (q:HC) (nm:ByteArray) (ld:Int):Bool:=(q.ld == ld)&&(pkgL q.nm.data.toList == pkgL nm.data.toList)
def Z3 (ps:List Plc) (nm:ByteArray) (ld:Int) (fit:Nat→Plc→Bool) (key:List UInt8):Except Int Nat :=
 match Yd ps key with
 | none=>.error 20
 | some k=>match ps[k]? with
   | none=>.error 20
   | some q=>if fit k q then (if pubB q.c.fl||Qf q.c nm ld then .ok k else .error 22) else .error 23
def abvV:Except Int Nat→Value
 | .ok k=>.tuple #[.int .i64 (k:Int),.int .i64 0]
 | .error e=>.tuple #[.int .i64 0,.int .i64 e]
theorem Jb (fv:Value) (N b mb:Nat) (ps:List Plc) (vp:Value) (pv:List PV) (nm su:ByteArray) (fl ld:Int) (vi vm:Value) (key:ByteArray) (hkz:key.size≤maxLen) (W:World) (h:HW W N b mb ps vp pv) (hl:Yd ps key.data.toList=none) :
 Calls Tryz.prog 163 #[.pointer (some ⟨b,0,none⟩),.agg #[.string nm,.string su,vi,.int .i64 fl,.int .i64 ld,vm],.string key,fv] W fun e w'=>e=.returned (.tuple #[.int .i64 0,.int .i64 20])∧Bw W w':=by
 have b1:=cell_of_row W b 1 _ _ _ h.hb
 simp only [List.getElem?_toArray,List.getElem?_cons_zero,List.getElem?_cons_succ] at b1
 obtain ⟨D,hD⟩:∃ D,Qk ps=D:=⟨_,rfl⟩
 have hz:Maps.has D (.string key.data.toList)=false:=by
  rw [← hD,Qk,Zbg _ _ _ _ isMap_empty]
  rw [Yd] at hl
  rw [hl];rfl
 have hown:=h.map
 rw [hD] at hown
 have HOWN:Hid (∀ o,(W.alloc o).ownsMap Tryz.prog 9 (plainElem (H:=Unit) Tryz.prog 3) mb ps.length D):=fun o=>hown.alloc o
 have hkey:=Go.WideMaps.keyOf_string_mk (P:=Tryz.prog) Tryz.underlying9 hkz
 have HKEY:Hid (keyOf Tryz.prog 9 (.string key)=some (.string key.data.toList)):=hkey
 obtain ⟨kl,hkl⟩:∃ k,k=Lit.string key.data.toList:=⟨_,rfl⟩
 rw [← hkl] at HKEY hz
 have hlt:b<W.heap.size:=(Array.getElem?_eq_some_iff.1 h.hb).1
 have hlm:¬ b=W.heap.size:=by omega
 clear h hD hown hkey hkl hl
 go_enter Tryz.func163,Tryz.ntmps163
 go_wp2_with (at_lookup;refine wpList_lookup_own_ok_int _ rfl _ _ 145 rfl 9 3 .i64 law9 Tryz.underlying145 Tryz.underlying3 (Ziq _) mb ps.length D rfl (HOWN.out _) _ _ rfl HKEY.out ?_;intro cc hat hwc;clear hat hwc)
 exact bodyPost_ret (results_tmp2 rfl _ _ _) rfl ⟨rfl,(Below.refl _ _).alloc (Nat.le_refl _) _⟩
--BASE
theorem Zes (bw bc:Nat) (N b mb:Nat) (ps:List Plc) (vp:Value) (pv:List PV) (nm su:ByteArray) (fl ld:Int) (vi vm:Value) (key:ByteArray) (hkz:key.size≤maxLen) (hnz:nm.size≤maxLen) (W:World) (h:HW W N b mb ps vp pv) (k:Nat) (q:Plc) (hl:Yd ps key.data.toList=some k) (hq:ps[k]?=some q) (hqz:q.c.nm.size≤maxLen) (ft:Bool)
 (hF:∀ w:World,Bw W w→Calls Tryz.prog 164 #[.int .i64 (k:Int),.pointer (some ⟨bw,0,none⟩),.pointer (some ⟨bc,0,none⟩)] w fun e w'=>e=.returned (.bool ft)∧Bw w w') :
 Calls Tryz.prog 163 #[.pointer (some ⟨b,0,none⟩),.agg #[.string nm,.string su,vi,.int .i64 fl,.int .i64 ld,vm],.string key,.func (.func 164) #[] #[.pointer (some ⟨bw,0,none⟩),.pointer (some ⟨bc,0,none⟩)]] W fun e w'=>e=.returned (abvV (if ft then (if pubB q.c.fl||Qf q.c nm ld then .ok k else .error 22) else .error 23))∧Bw W w':=by
 have b1:=cell_of_row W b 1 _ _ _ h.hb
 simp only [List.getElem?_toArray,List.getElem?_cons_zero,List.getElem?_cons_succ] at b1
 obtain ⟨D,hD⟩:∃ D,Qk ps=D:=⟨_,rfl⟩
 have hz:Maps.has D (.string key.data.toList)=true:=by
  rw [← hD,Qk,Zbg _ _ _ _ isMap_empty]
  rw [Yd] at hl
  rw [hl];rfl
 have hat:∀ cc:Int,D.atKey (.string key.data.toList) (.lit (.int .i64 0))=.lit (.int .i64 cc)→cc=(k:Int):=fun cc hc=>by
  rw [← hD,Qk,Zk5 _ _ _ _ _ isMap_empty] at hc
  rw [Yd] at hl
  rw [hl] at hc
  injection hc with h1
  injection h1 with _ h2
  exact h2.symm
 have hown:=h.map
 rw [hD] at hown
 have HOWN:Hid (∀ o,(W.alloc o).ownsMap Tryz.prog 9 (plainElem (H:=Unit) Tryz.prog 3) mb ps.length D):=fun o=>hown.alloc o
 have hkey:=Go.WideMaps.keyOf_string_mk (P:=Tryz.prog) Tryz.underlying9 hkz
 have HKEY:Hid (keyOf Tryz.prog 9 (.string key)=some (.string key.data.toList)):=hkey
 obtain ⟨kl,hkl⟩:∃ k,k=Lit.string key.data.toList:=⟨_,rfl⟩
 rw [← hkl] at HKEY hz hat
 have HAT:Hid (∀ cc:Int,D.atKey kl (.lit (.int .i64 0))=.lit (.int .i64 cc)→cc=(k:Int)):=hat
 have hlt:b<W.heap.size:=(Array.getElem?_eq_some_iff.1 h.hb).1
 have hlm:¬ b=W.heap.size:=by omega
 obtain ⟨g,cap,p,rfl,hpl,hcell⟩:=h.at hq
 have hkn:(k:Int)<(ps.length:Int):=by have:=(List.getElem?_eq_some_iff.1 hq).1;omega
 have b0:=cell_of_row W b 0 _ _ _ h.hb
 simp only [List.getElem?_toArray,List.getElem?_cons_zero] at b0
 have g0:W.cell? ⟨g,k * 8,none⟩=some (.string p.nm):=hcell 0 (by omega)
 have g1:W.cell? ⟨g,k * 8+1,none⟩=some (.string p.su):=hcell 1 (by omega)
 have g2:W.cell? ⟨g,k * 8+2,none⟩=some p.vi:=hcell 2 (by omega)
 have g3:W.cell? ⟨g,k * 8+3,none⟩=some (.int .i64 p.fl):=hcell 3 (by omega)
 have g4:W.cell? ⟨g,k * 8+4,none⟩=some (.int .i64 p.ld):=hcell 4 (by omega)
 have g5:W.cell? ⟨g,k * 8+5,none⟩=some p.vm:=hcell 5 (by omega)
 have hgl:g<W.heap.size:=World.block_lt_of_cell? W _ g0
 obtain ⟨qm,_,hoc⟩:=hpl.own
 obtain ⟨ai,ci,hvi⟩:=ownv hoc.ifs
 obtain ⟨am,cm,hvm⟩:=ownv hoc.ms
 rw [hvi] at g2
 rw [hvm] at g5
 have HF:Hid (∀ w:World,Bw W w→Calls Tryz.prog 164 #[.int .i64 (k:Int),.pointer (some ⟨bw,0,none⟩),.pointer (some ⟨bc,0,none⟩)] w fun e w'=>e=.returned (.bool ft)∧Bw w w'):=hF
 have HP:Hid (∀ w:World,Calls Tryz.prog 223 #[.agg #[.string nm,.string su,vi,.int .i64 fl,.int .i64 ld,vm]] w fun e w'=>e=.returned (.agg #[.int .i64 ld,.string ⟨(pkgL nm.data.toList).toArray⟩])∧Bw w w'):=fun w=>Yv nm su fl ld vi vm w hnz
 have HQ:Hid (∀ w:World,Calls Tryz.prog 223 #[.agg #[.string p.nm,.string p.su,.slice ai q.c.ni ci,.int .i64 p.fl,.int .i64 p.ld,.slice am qm.length cm]] w fun e w'=>e=.returned (.agg #[.int .i64 q.c.ld,.string ⟨(pkgL q.c.nm.data.toList).toArray⟩])∧Bw w w'):=fun w=>by rw [← hpl.ld,← hpl.nm];exact Yv p.nm p.su p.fl p.ld _ _ w (by rw [hpl.nm];exact hqz)
 have hfl:p.fl=q.c.fl:=hpl.fl
 rw [← hfl]
 have HS:Hid (Qf q.c nm ld=((q.c.ld == ld)&&(pkgL q.c.nm.data.toList == pkgL nm.data.toList))):=rfl
 generalize Qf q.c nm ld=sp at *
 clear h hD hown hkey hkl hl hat hpl hcell hF hq hfl hoc hvi hvm
 cases ft with
 | false =>
   go_enter Tryz.func163,Tryz.ntmps163
   go_wp2_with (first
    | (at_lookup;refine wpList_lookup_own_ok_int _ rfl _ _ 145 rfl 9 3 .i64 law9 Tryz.underlying145 Tryz.underlying3 (Ziq _) mb ps.length D rfl (HOWN.out _) _ _ rfl HKEY.out ?_;intro cc hat hwc;obtain rfl:=HAT.out cc hat;clear hat hwc)
    | (go_at_call 164;refine (HF.out _ ((Below.refl _ _).alloc (Nat.le_refl _) _)).mono ?_;rintro e w1 ⟨rfl,hb⟩;have B1:Hid (Bw W w1):=Zb ((Below.refl _ _).alloc (Nat.le_refl _) _) hb;clear hb HF))
   exact bodyPost_ret (results_tmp2 rfl _ _ _) rfl ⟨rfl,B1.out⟩
 | true =>
   obtain ⟨R,hR⟩:∃ R,R=abvV (if pubB p.fl||sp then .ok k else .error 22):=⟨_,rfl⟩
   simp only [if_true]
   rw [← hR]
   have HR:Hid (R=abvV (if pubB p.fl||sp then .ok k else .error 22)):=hR
   clear hR
   go_enter Tryz.func163,Tryz.ntmps163
   go_wp2_with (first
    | (at_lookup;refine wpList_lookup_own_ok_int _ rfl _ _ 145 rfl 9 3 .i64 law9 Tryz.underlying145 Tryz.underlying3 (Ziq _) mb ps.length D rfl (HOWN.out _) _ _ rfl HKEY.out ?_;intro cc hat hwc;obtain rfl:=HAT.out cc hat;clear hat hwc)
    | (go_at_call 164;(refine (HF.out _ ((Below.refl _ _).alloc (Nat.le_refl _) _)).mono ?_;rintro e w1 ⟨rfl,hb⟩;have B1:Hid (Bw W w1):=Zb ((Below.refl _ _).alloc (Nat.le_refl _) _) hb;have bb:=B1.out;have b0:=(bb.cell (p:=⟨b,0,none⟩) hlt).trans b0;have g0:=(bb.cell (p:=⟨g,k * 8,none⟩) hgl).trans g0;have g1:=(bb.cell (p:=⟨g,k * 8+1,none⟩) hgl).trans g1;have g2:=(bb.cell (p:=⟨g,k * 8+2,none⟩) hgl).trans g2;have g3:=(bb.cell (p:=⟨g,k * 8+3,none⟩) hgl).trans g3;have g4:=(bb.cell (p:=⟨g,k * 8+4,none⟩) hgl).trans g4;have g5:=(bb.cell (p:=⟨g,k * 8+5,none⟩) hgl).trans g5;have hl1:b<w1.heap.size:=Nat.lt_of_lt_of_le hlt bb.size;have hg1:g<w1.heap.size:=Nat.lt_of_lt_of_le hgl bb.size;have hcw:=(hb.block W.heap.size (by simp)).trans (Qo W _);have HCW:Hid (w1.heap[W.heap.size]?=some (.cells #[.string nm,.string su,vi,.int .i64 fl,.int .i64 ld,vm] 73 (0,0))):=hcw;clear hb HF bb hcw)))
   obtain ⟨Wm,hWm⟩:∃ x,x=w1.alloc (.cells #[.string p.nm,.string p.su,.slice ai q.c.ni ci,.int .i64 p.fl,.int .i64 p.ld,.slice am qm.length cm] 73):=⟨_,rfl⟩
   have BM:Hid (Bw w1 Wm):=by rw [hWm];exact (Below.refl _ _).alloc (Nat.le_refl _) _
   have hm0:Wm.heap[w1.heap.size]?=some (.cells #[.string p.nm,.string p.su,.slice ai q.c.ni ci,.int .i64 p.fl,.int .i64 p.ld,.slice am qm.length cm] 73 (0,0)):=by rw [hWm];exact Qo _ _
   have hWl:W.heap.size<w1.heap.size:=(Array.getElem?_eq_some_iff.1 HCW.out).1
   have hm1:=(BM.out.block W.heap.size hWl).trans HCW.out
   have hsm:w1.heap.size<Wm.heap.size:=by rw [hWm];simp
   have hsW:W.heap.size<Wm.heap.size:=by omega
   rw [← hWm]
   have m0:=cell_of_row Wm w1.heap.size 0 _ _ _ hm0
   have m1:=cell_of_row Wm w1.heap.size 1 _ _ _ hm0
   have m2:=cell_of_row Wm w1.heap.size 2 _ _ _ hm0
   have m3:=cell_of_row Wm w1.heap.size 3 _ _ _ hm0
   have m4:=cell_of_row Wm w1.heap.size 4 _ _ _ hm0
   have m5:=cell_of_row Wm w1.heap.size 5 _ _ _ hm0
   have n0:=cell_of_row Wm W.heap.size 0 _ _ _ hm1
   have n1:=cell_of_row Wm W.heap.size 1 _ _ _ hm1
   have n2:=cell_of_row Wm W.heap.size 2 _ _ _ hm1
   have n3:=cell_of_row Wm W.heap.size 3 _ _ _ hm1
   have n4:=cell_of_row Wm W.heap.size 4 _ _ _ hm1
   have n5:=cell_of_row Wm W.heap.size 5 _ _ _ hm1
   simp only [List.getElem?_toArray,List.getElem?_cons_zero,List.getElem?_cons_succ] at m0 m1 m2 m3 m4 m5 n0 n1 n2 n3 n4 n5
   have BB:Hid (Bw W Wm):=Zb B1.out BM.out
   have hsz1:W.heap.size≤Wm.heap.size:=by omega
   clear b0 b1 g0 g1 g2 g3 g4 g5 hm0 hm1 HCW HOWN HKEY HAT hl1 hg1 B1 BM hWm hlt hlm hgl
   have PB:Hid (pubB p.fl=(bits .and .i64 p.fl 1 != 0)):=rfl
   generalize pubB p.fl=pb at *
   cases pb with
   | true =>
     have h0:(bits .and .i64 p.fl 1 == 0)=false:=by have:=PB.out;rw [bne] at this;cases e:(bits .and .i64 p.fl 1 == 0) with
      | true=>rw [e] at this;cases this
      | false=>rfl
     have h01:¬ bits .and .i64 p.fl 1=0:=by simpa using h0
     clear PB HP HQ HS
     go_quiet ((fail))
     go_wp2
     exact bodyPost_ret (results_tmp2 rfl _ _ _) rfl ⟨by rw [HR.out];rfl,below_drewN BB.out _⟩
   | false =>
     have h0:bits .and .i64 p.fl 1=0:=by have:=PB.out;simpa [bne] using this.symm
     have S0:Hid (sp=((q.c.ld == ld)&&(pkgL q.c.nm.data.toList == pkgL nm.data.toList))):=HS
     clear PB HS
     by_cases hld:q.c.ld=ld
     ·by_cases hpk:pkgL q.c.nm.data.toList=pkgL nm.data.toList
      ·have hsp:sp=true:=by rw [S0.out,hld,hpk];simp
       rw [hld,hpk] at HQ
       clear hld hpk S0
       generalize (⟨(pkgL nm.data.toList).toArray⟩:ByteArray)=s1 at *
       go_region_held3 (fun w'=>w'.cell? ⟨w1.heap.size,0,none⟩=some (.string p.nm)∧w'.cell? ⟨w1.heap.size,1,none⟩=some (.string p.su)∧w'.cell? ⟨w1.heap.size,2,none⟩=some (.slice ai q.c.ni ci)∧w'.cell? ⟨w1.heap.size,3,none⟩=some (.int .i64 p.fl)∧w'.cell? ⟨w1.heap.size,4,none⟩=some (.int .i64 p.ld)∧w'.cell? ⟨w1.heap.size,5,none⟩=some (.slice am qm.length cm)∧w'.cell? ⟨W.heap.size,0,none⟩=some (.string nm)∧w'.cell? ⟨W.heap.size,1,none⟩=some (.string su)∧w'.cell? ⟨W.heap.size,2,none⟩=some vi∧w'.cell? ⟨W.heap.size,3,none⟩=some (.int .i64 fl)∧w'.cell? ⟨W.heap.size,4,none⟩=some (.int .i64 ld)∧w'.cell? ⟨W.heap.size,5,none⟩=some vm) (go_keep)
        (first
         | (go_at_call 223;refine (HQ.out _).mono ?_;rintro e w2 ⟨rfl,hb2⟩;have B2:Hid (Bw W w2):=Zb BB.out.drew hb2;have kp:∀ (bb j:Nat) (v:Value),bb<Wm.heap.size→Wm.cell? ⟨bb,j,none⟩=some v→w2.cell? ⟨bb,j,none⟩=some v:=fun bb j v hl h=>(hb2.cell (p:=⟨bb,j,none⟩) hl).trans h;replace m0:=kp _ _ _ hsm m0;replace m1:=kp _ _ _ hsm m1;replace m2:=kp _ _ _ hsm m2;replace m3:=kp _ _ _ hsm m3;replace m4:=kp _ _ _ hsm m4;replace m5:=kp _ _ _ hsm m5;replace n0:=kp _ _ _ hsW n0;replace n1:=kp _ _ _ hsW n1;replace n2:=kp _ _ _ hsW n2;replace n3:=kp _ _ _ hsW n3;replace n4:=kp _ _ _ hsW n4;replace n5:=kp _ _ _ hsW n5;have hs2:Wm.heap.size≤w2.heap.size:=hb2.size;replace hsm:w1.heap.size<w2.heap.size:=Nat.lt_of_lt_of_le hsm hs2;replace hsW:W.heap.size<w2.heap.size:=Nat.lt_of_lt_of_le hsW hs2;clear kp hb2 HQ)
         | (go_at_call 223;refine (HP.out _).mono ?_;rintro e w3 ⟨rfl,hb3⟩;have B3:Hid (Bw W w3):=Zb B2.out hb3;have kp:∀ (bb j:Nat) (v:Value),bb<w2.heap.size→w2.cell? ⟨bb,j,none⟩=some v→w3.cell? ⟨bb,j,none⟩=some v:=fun bb j v hl h=>(hb3.cell (p:=⟨bb,j,none⟩) hl).trans h;replace m0:=kp _ _ _ hsm m0;replace m1:=kp _ _ _ hsm m1;replace m2:=kp _ _ _ hsm m2;replace m3:=kp _ _ _ hsm m3;replace m4:=kp _ _ _ hsm m4;replace m5:=kp _ _ _ hsm m5;replace n0:=kp _ _ _ hsW n0;replace n1:=kp _ _ _ hsW n1;replace n2:=kp _ _ _ hsW n2;replace n3:=kp _ _ _ hsW n3;replace n4:=kp _ _ _ hsW n4;replace n5:=kp _ _ _ hsW n5;clear kp hb3 HP))
       go_wp2
       refine bodyPost_ret (results_tmp2 rfl _ _ _) rfl ⟨by rw [HR.out,hsp];rfl,B3.out⟩
      ·have hsp:sp=false:=by rw [S0.out];simp [hpk]
       have hs12:¬ (⟨(pkgL q.c.nm.data.toList).toArray⟩:ByteArray)=⟨(pkgL nm.data.toList).toArray⟩:=fun e=>hpk (by injection e with e;simpa using e)
       have hs13:∀ x:List UInt8,(⟨x.toArray⟩:ByteArray).toList=x:=fun x=>by rw [Lib.toList_data]
       have hs14:¬ (⟨(pkgL q.c.nm.data.toList).toArray⟩:ByteArray).toList=(⟨(pkgL nm.data.toList).toArray⟩:ByteArray).toList:=by rw [hs13,hs13];exact hpk
       clear hs13
       rw [hld] at HQ
       clear hld hpk S0
       generalize (⟨(pkgL nm.data.toList).toArray⟩:ByteArray)=s1 at *
       generalize (⟨(pkgL q.c.nm.data.toList).toArray⟩:ByteArray)=s2 at *
       go_region_held3 (fun w'=>w'.cell? ⟨w1.heap.size,0,none⟩=some (.string p.nm)∧w'.cell? ⟨w1.heap.size,1,none⟩=some (.string p.su)∧w'.cell? ⟨w1.heap.size,2,none⟩=some (.slice ai q.c.ni ci)∧w'.cell? ⟨w1.heap.size,3,none⟩=some (.int .i64 p.fl)∧w'.cell? ⟨w1.heap.size,4,none⟩=some (.int .i64 p.ld)∧w'.cell? ⟨w1.heap.size,5,none⟩=some (.slice am qm.length cm)∧w'.cell? ⟨W.heap.size,0,none⟩=some (.string nm)∧w'.cell? ⟨W.heap.size,1,none⟩=some (.string su)∧w'.cell? ⟨W.heap.size,2,none⟩=some vi∧w'.cell? ⟨W.heap.size,3,none⟩=some (.int .i64 fl)∧w'.cell? ⟨W.heap.size,4,none⟩=some (.int .i64 ld)∧w'.cell? ⟨W.heap.size,5,none⟩=some vm) (go_keep)
        (first
         | (go_at_call 223;refine (HQ.out _).mono ?_;rintro e w2 ⟨rfl,hb2⟩;have B2:Hid (Bw W w2):=Zb BB.out.drew hb2;have kp:∀ (bb j:Nat) (v:Value),bb<Wm.heap.size→Wm.cell? ⟨bb,j,none⟩=some v→w2.cell? ⟨bb,j,none⟩=some v:=fun bb j v hl h=>(hb2.cell (p:=⟨bb,j,none⟩) hl).trans h;replace m0:=kp _ _ _ hsm m0;replace m1:=kp _ _ _ hsm m1;replace m2:=kp _ _ _ hsm m2;replace m3:=kp _ _ _ hsm m3;replace m4:=kp _ _ _ hsm m4;replace m5:=kp _ _ _ hsm m5;replace n0:=kp _ _ _ hsW n0;replace n1:=kp _ _ _ hsW n1;replace n2:=kp _ _ _ hsW n2;replace n3:=kp _ _ _ hsW n3;replace n4:=kp _ _ _ hsW n4;replace n5:=kp _ _ _ hsW n5;have hs2:Wm.heap.size≤w2.heap.size:=hb2.size;replace hsm:w1.heap.size<w2.heap.size:=Nat.lt_of_lt_of_le hsm hs2;replace hsW:W.heap.size<w2.heap.size:=Nat.lt_of_lt_of_le hsW hs2;clear kp hb2 HQ)
         | (go_at_call 223;refine (HP.out _).mono ?_;rintro e w3 ⟨rfl,hb3⟩;have B3:Hid (Bw W w3):=Zb B2.out hb3;have kp:∀ (bb j:Nat) (v:Value),bb<w2.heap.size→w2.cell? ⟨bb,j,none⟩=some v→w3.cell? ⟨bb,j,none⟩=some v:=fun bb j v hl h=>(hb3.cell (p:=⟨bb,j,none⟩) hl).trans h;replace m0:=kp _ _ _ hsm m0;replace m1:=kp _ _ _ hsm m1;replace m2:=kp _ _ _ hsm m2;replace m3:=kp _ _ _ hsm m3;replace m4:=kp _ _ _ hsm m4;replace m5:=kp _ _ _ hsm m5;replace n0:=kp _ _ _ hsW n0;replace n1:=kp _ _ _ hsW n1;replace n2:=kp _ _ _ hsW n2;replace n3:=kp _ _ _ hsW n3;replace n4:=kp _ _ _ hsW n4;replace n5:=kp _ _ _ hsW n5;clear kp hb3 HP))
       go_wp2
       refine bodyPost_ret (results_tmp2 rfl _ _ _) rfl ⟨by rw [HR.out,hsp];rfl,B3.out⟩
     ·have hsp:sp=false:=by rw [S0.out];simp [hld]
      generalize (⟨(pkgL nm.data.toList).toArray⟩:ByteArray)=s1 at *
      generalize (⟨(pkgL q.c.nm.data.toList).toArray⟩:ByteArray)=s2 at *
      clear S0
      go_region_held3 (fun w'=>w'.cell? ⟨w1.heap.size,0,none⟩=some (.string p.nm)∧w'.cell? ⟨w1.heap.size,1,none⟩=some (.string p.su)∧w'.cell? ⟨w1.heap.size,2,none⟩=some (.slice ai q.c.ni ci)∧w'.cell? ⟨w1.heap.size,3,none⟩=some (.int .i64 p.fl)∧w'.cell? ⟨w1.heap.size,4,none⟩=some (.int .i64 p.ld)∧w'.cell? ⟨w1.heap.size,5,none⟩=some (.slice am qm.length cm)∧w'.cell? ⟨W.heap.size,0,none⟩=some (.string nm)∧w'.cell? ⟨W.heap.size,1,none⟩=some (.string su)∧w'.cell? ⟨W.heap.size,2,none⟩=some vi∧w'.cell? ⟨W.heap.size,3,none⟩=some (.int .i64 fl)∧w'.cell? ⟨W.heap.size,4,none⟩=some (.int .i64 ld)∧w'.cell? ⟨W.heap.size,5,none⟩=some vm) (go_keep)
       (first
        | (go_at_call 223;refine (HQ.out _).mono ?_;rintro e w2 ⟨rfl,hb2⟩;have B2:Hid (Bw W w2):=Zb BB.out.drew hb2;have kp:∀ (bb j:Nat) (v:Value),bb<Wm.heap.size→Wm.cell? ⟨bb,j,none⟩=some v→w2.cell? ⟨bb,j,none⟩=some v:=fun bb j v hl h=>(hb2.cell (p:=⟨bb,j,none⟩) hl).trans h;replace m0:=kp _ _ _ hsm m0;replace m1:=kp _ _ _ hsm m1;replace m2:=kp _ _ _ hsm m2;replace m3:=kp _ _ _ hsm m3;replace m4:=kp _ _ _ hsm m4;replace m5:=kp _ _ _ hsm m5;replace n0:=kp _ _ _ hsW n0;replace n1:=kp _ _ _ hsW n1;replace n2:=kp _ _ _ hsW n2;replace n3:=kp _ _ _ hsW n3;replace n4:=kp _ _ _ hsW n4;replace n5:=kp _ _ _ hsW n5;have hs2:Wm.heap.size≤w2.heap.size:=hb2.size;replace hsm:w1.heap.size<w2.heap.size:=Nat.lt_of_lt_of_le hsm hs2;replace hsW:W.heap.size<w2.heap.size:=Nat.lt_of_lt_of_le hsW hs2;clear kp hb2 HQ)
        | (go_at_call 223;refine (HP.out _).mono ?_;rintro e w3 ⟨rfl,hb3⟩;have B3:Hid (Bw W w3):=Zb B2.out hb3;have kp:∀ (bb j:Nat) (v:Value),bb<w2.heap.size→w2.cell? ⟨bb,j,none⟩=some v→w3.cell? ⟨bb,j,none⟩=some v:=fun bb j v hl h=>(hb3.cell (p:=⟨bb,j,none⟩) hl).trans h;replace m0:=kp _ _ _ hsm m0;replace m1:=kp _ _ _ hsm m1;replace m2:=kp _ _ _ hsm m2;replace m3:=kp _ _ _ hsm m3;replace m4:=kp _ _ _ hsm m4;replace m5:=kp _ _ _ hsm m5;replace n0:=kp _ _ _ hsW n0;replace n1:=kp _ _ _ hsW n1;replace n2:=kp _ _ _ hsW n2;replace n3:=kp _ _ _ hsW n3;replace n4:=kp _ _ _ hsW n4;replace n5:=kp _ _ _ hsW n5;clear kp hb3 HP))
      go_wp2
      refine bodyPost_ret (results_tmp2 rfl _ _ _) rfl ⟨by rw [HR.out,hsp];rfl,B3.out⟩
def Zaz (p q:Plc):Bool:=(p.c.ld == q.c.ld)&&(pkgL p.c.nm.data.toList == pkgL q.c.nm.data.toList)
def spI (ps:List Plc) (a b:Int):Bool:=match plcI ps a,plcI ps b with
 | some p,some q=>Zaz p q
 | _,_=>false
theorem class_of' (C:World→Prop) (h:∃ w,C w):∃ (σ:Type) (V:σ→World),Nonempty σ∧Hid (∀ s,C (V s))∧Hid (∀ w,C w→∃ s,w=V s) :=
 ⟨{w // C w},Subtype.val,h.elim fun w hw=>⟨⟨w,hw⟩⟩,fun s=>s.2,fun w hw=>⟨⟨w,hw⟩,rfl⟩⟩
theorem Ziy {b:Nat} {ps:List Plc} {W:World} (h:WAt b ps W) (x y:Int) (hq:plcI ps x=none):Calls Tryz.prog 272 #[.pointer (some ⟨b,0,none⟩),.int .i64 x,.int .i64 y] W fun e w'=>e=.returned (.bool false)∧Bw W w':=by
 obtain ⟨σ,V,hne,V1,V2⟩:=class_of' (fun w'=>Bw W w') ⟨_,Below.refl _ _⟩
 have HX:Hid (∀ s,Calls Tryz.prog 106 #[.pointer (some ⟨b,0,none⟩),.int .i64 x] (V s) fun e w''=>e=.returned (.bool false)∧∃ s',w''=V s'):=fun s=>by
  have:=Zbb (h.below (V1.out s)) x
  rw [hq] at this
  exact this.mono fun e w'' zz=>⟨zz.1,s,zz.2⟩
 clear h hq
 go_enter Tryz.func272,Tryz.ntmps272
 go_wp2
 refine Ze (C:=fun w'=>∃ s,w'=V s) (by kernel_rfl) (by kernel_rfl) (V2.out _ ((Below.refl _ _).drew)) ?_
 repeat (go_big_quiet_step ((go_at_call 106;exact HX.out _)))
 refine wpQuiet_nil ?_
 intro w9 hw9
 obtain ⟨s9,rfl⟩:=hw9
 go_wp2
 exact bodyPost_ret (results_tmp rfl _ _ _) rfl ⟨rfl,V1.out s9⟩
theorem Zix {b:Nat} {ps:List Plc} {W:World} (h:WAt b ps W) (x y:Int) (q:Plc) (hx:plcI ps x=some q) (hy:plcI ps y=none):Calls Tryz.prog 272 #[.pointer (some ⟨b,0,none⟩),.int .i64 x,.int .i64 y] W fun e w'=>e=.returned (.bool false)∧Bw W w':=by
 obtain ⟨σ,V,hne,V1,V2⟩:=class_of' (fun w'=>Bw W w') ⟨_,Below.refl _ _⟩
 have HX:Hid (∀ i s,i=x→Calls Tryz.prog 106 #[.pointer (some ⟨b,0,none⟩),.int .i64 i] (V s) fun e w''=>e=.returned (.bool true)∧∃ s',w''=V s'):=fun i s hi=>by
  have:=Zbb (h.below (V1.out s)) i
  rw [hi,hx] at this
  rw [hi]
  exact this.mono fun e w'' zz=>⟨zz.1,s,zz.2⟩
 have HY:Hid (∀ i s,i=y→Calls Tryz.prog 106 #[.pointer (some ⟨b,0,none⟩),.int .i64 i] (V s) fun e w''=>e=.returned (.bool false)∧∃ s',w''=V s'):=fun i s hi=>by
  have:=Zbb (h.below (V1.out s)) i
  rw [hi,hy] at this
  rw [hi]
  exact this.mono fun e w'' zz=>⟨zz.1,s,zz.2⟩
 clear h hx hy
 go_enter Tryz.func272,Tryz.ntmps272
 go_wp2
 refine Ze (C:=fun w'=>∃ s,w'=V s) (by kernel_rfl) (by kernel_rfl) (V2.out _ ((Below.refl _ _).drew)) ?_
 repeat (go_big_quiet_step (first|(go_at_call 106;exact HX.out _ _ rfl)|(go_at_call 106;exact HY.out _ _ rfl)))
 refine wpQuiet_nil ?_
 intro w9 hw9
 obtain ⟨s9,rfl⟩:=hw9
 go_wp2
 exact bodyPost_ret (results_tmp rfl _ _ _) rfl ⟨rfl,V1.out s9⟩
theorem eqS (d:Nat) (a b:ByteArray) (w:World):(Op.equalIn (d+1) 9 (.string a) (.string b)).run Tryz.prog w=.ok (a == b) w:=by
 simp [Op.equalIn,run_underlying Tryz.underlying9,go_sem]
theorem eqN (d:Nat) (a b:Int) (w:World):(Op.equalIn (d+1) 3 (.int .i64 a) (.int .i64 b)).run Tryz.prog w=.ok (a == b) w:=by
 simp [Op.equalIn,run_underlying Tryz.underlying3,go_sem]
theorem eqPk (a b:Int) (s t:ByteArray) (w:World):(Op.equal 241 (.agg #[.int .i64 a,.string s]) (.agg #[.int .i64 b,.string t])).run Tryz.prog w=.ok ((a == b)&&(s == t)) w:=by
 have h:(Op.equalIn (9997+1+1+1) 241 (.agg #[.int .i64 a,.string s]) (.agg #[.int .i64 b,.string t])).run Tryz.prog w=.ok ((a == b)&&(s == t)) w:=by
  rw [Op.equalIn]
  simp [run_underlying Tryz.underlying241,go_sem,part,eqS,eqN]
  generalize (s == t)=y
  by_cases h1:a=b <;> cases y <;> simp [h1]
 exact h
theorem beqB (a b:List UInt8):((⟨a.toArray⟩:ByteArray) == ⟨b.toArray⟩)=(a == b):=by
 have h:((⟨a.toArray⟩:ByteArray) == ⟨b.toArray⟩)=(a.toArray == b.toArray):=rfl
 rw [h,Bool.eq_iff_iff,beq_iff_eq,beq_iff_eq]
 exact ⟨fun h=>by injection h,fun h=>by rw [h]⟩
theorem Zfk {b:Nat} {ps:List Plc} {W:World} (h:WAt b ps W) {k:Nat} {q:Plc} (hq:ps[k]?=some q):∃ g cap vi vm,W.cell? ⟨b,0,none⟩=some (.slice (some ⟨g,0,none⟩) ps.length cap)∧b<W.heap.size∧g<W.heap.size ∧
 W.cell? ⟨g,k * 8,none⟩=some (.string q.c.nm)∧W.cell? ⟨g,k * 8+1,none⟩=some (.string q.c.su)∧W.cell? ⟨g,k * 8+2,none⟩=some vi∧W.cell? ⟨g,k * 8+3,none⟩=some (.int .i64 q.c.fl)∧W.cell? ⟨g,k * 8+4,none⟩=some (.int .i64 q.c.ld)∧W.cell? ⟨g,k * 8+5,none⟩=some vm∧(∃ a c,vi=.slice a q.c.ni c)∧(∃ a c,vm=.slice a q.c.ms.length c):=by
 obtain ⟨N,mb,vp,pv,h⟩:=h
 obtain ⟨g,cap,p,rfl,hpl,hcell⟩:=h.at hq
 have b0:=cell_of_row W b 0 _ _ _ h.hb
 simp only [List.getElem?_toArray,List.getElem?_cons_zero] at b0
 obtain ⟨qm,hqm,hoc⟩:=hpl.own
 have c0:W.cell? ⟨g,k * 8,none⟩=some (.string q.c.nm):=by rw [← hpl.nm];exact hcell 0 (by omega)
 refine ⟨g,cap,p.vi,p.vm,b0,(Array.getElem?_eq_some_iff.1 h.hb).1,World.block_lt_of_cell? W _ c0,c0,?_,?_,?_,?_,?_,?_,?_⟩
 ·rw [← hpl.su];exact hcell 1 (by omega)
 ·exact hcell 2 (by omega)
 ·rw [← hpl.fl];exact hcell 3 (by omega)
 ·rw [← hpl.ld];exact hcell 4 (by omega)
 ·exact hcell 5 (by omega)
 ·exact ownv hoc.ifs
 ·have hlen:qm.length=q.c.ms.length:=by rw [← hqm];simp
  rw [← hlen];exact ownv hoc.ms
theorem Ziw {b:Nat} {ps:List Plc} {W:World} (h:WAt b ps W) (x y:Nat) (p q:Plc) (hx:ps[x]?=some p) (hy:ps[y]?=some q) (hpz:p.c.nm.size≤maxLen) (hqz:q.c.nm.size≤maxLen):Calls Tryz.prog 272 #[.pointer (some ⟨b,0,none⟩),.int .i64 (x:Int),.int .i64 (y:Int)] W fun e w'=>e=.returned (.bool (Zaz p q))∧Bw W w':=by
 obtain ⟨σ,V,hne,V1,V2⟩:=class_of' (fun w'=>Bw W w') ⟨_,Below.refl _ _⟩
 have HX:Hid (∀ i s,i=(x:Int)→Calls Tryz.prog 106 #[.pointer (some ⟨b,0,none⟩),.int .i64 i] (V s) fun e w''=>e=.returned (.bool true)∧∃ s',w''=V s'):=fun i s hi=>by
  have:=Zbb (h.below (V1.out s)) i
  rw [hi,Z5,hx] at this
  rw [hi]
  exact this.mono fun e w'' zz=>⟨zz.1,s,zz.2⟩
 have HY:Hid (∀ i s,i=(y:Int)→Calls Tryz.prog 106 #[.pointer (some ⟨b,0,none⟩),.int .i64 i] (V s) fun e w''=>e=.returned (.bool true)∧∃ s',w''=V s'):=fun i s hi=>by
  have:=Zbb (h.below (V1.out s)) i
  rw [hi,Z5,hy] at this
  rw [hi]
  exact this.mono fun e w'' zz=>⟨zz.1,s,zz.2⟩
 obtain ⟨g,cap,vi,vm,b0,hlt,hgl,c0,c1,c2,c3,c4,c5,⟨ai,ci,rfl⟩,am,cm,rfl⟩:=Zfk h hx
 obtain ⟨g',cap',vi',vm',b0',_,_,d0,d1,d2,d3,d4,d5,⟨ai',ci',rfl⟩,am',cm',rfl⟩:=Zfk h hy
 rw [b0] at b0'
 simp only [Option.some.injEq,Value.slice.injEq,Addr.mk.injEq,and_true,true_and] at b0'
 obtain ⟨rfl,rfl⟩:=b0'
 have HPZ:Hid (p.c.nm.size≤maxLen):=hpz
 have HQZ:Hid (q.c.nm.size≤maxLen):=hqz
 obtain ⟨pk,hpk,HP⟩:∃ pk:ByteArray→ByteArray,(pk=fun x=>⟨(pkgL x.data.toList).toArray⟩)∧Hid (∀ nm su fl ld vi vm s,nm.size≤maxLen→Calls Tryz.prog 223 #[.agg #[.string nm,.string su,vi,.int .i64 fl,.int .i64 ld,vm]] (V s) fun e w''=>e=.returned (.agg #[.int .i64 ld,.string (pk nm)])∧∃ s',w''=V s') :=
  ⟨_,rfl,fun nm su fl ld vi vm s hz=>(Yv _ _ _ _ _ _ (V s) hz).mono fun e w'' zz=>⟨zz.1,V2.out _ (Zb (V1.out s) zz.2)⟩⟩
 have HPK:Hid (pk=fun x=>⟨(pkgL x.data.toList).toArray⟩):=hpk
 clear hpk
 have kp:∀ (s:σ) (bb j:Nat) (v:Value),bb<W.heap.size→W.cell? ⟨bb,j,none⟩=some v→(V s).cell? ⟨bb,j,none⟩=some v:=fun s bb j v hl h=>((V1.out s).cell (p:=⟨bb,j,none⟩) hl).trans h
 replace b0:=fun s=>kp s _ _ _ hlt b0
 replace c0:=fun s=>kp s _ _ _ hgl c0
 replace c1:=fun s=>kp s _ _ _ hgl c1
 replace c2:=fun s=>kp s _ _ _ hgl c2
 replace c3:=fun s=>kp s _ _ _ hgl c3
 replace c4:=fun s=>kp s _ _ _ hgl c4
 replace c5:=fun s=>kp s _ _ _ hgl c5
 replace d0:=fun s=>kp s _ _ _ hgl d0
 replace d1:=fun s=>kp s _ _ _ hgl d1
 replace d2:=fun s=>kp s _ _ _ hgl d2
 replace d3:=fun s=>kp s _ _ _ hgl d3
 replace d4:=fun s=>kp s _ _ _ hgl d4
 replace d5:=fun s=>kp s _ _ _ hgl d5
 have hxI:(x:Int)<(ps.length:Int):=by have:=(List.getElem?_eq_some_iff.1 hx).1;omega
 have hyI:(y:Int)<(ps.length:Int):=by have:=(List.getElem?_eq_some_iff.1 hy).1;omega
 have HR:Hid (Zaz p q=((p.c.ld == q.c.ld)&&(pkgL p.c.nm.data.toList == pkgL q.c.nm.data.toList))):=rfl
 have HR2:Hid ((p.c.ld == q.c.ld&&pk p.c.nm == pk q.c.nm)=Zaz p q):=by rw [Hid,HR.out,HPK.out,beqB]
 generalize Zaz p q=R at *
 clear HR HPK
 have EQ:∀ w,(Op.equal 241 (.agg #[.int .i64 p.c.ld,.string (pk p.c.nm)]) (.agg #[.int .i64 q.c.ld,.string (pk q.c.nm)])).run Tryz.prog w=.ok R w:=fun w=>by rw [eqPk,HR2.out]
 have G1:∀ w,(eqGuard .eql 241 (.tmp 24) (.tmp 33) (.agg #[.int .i64 p.c.ld,.string (pk p.c.nm)]) (.agg #[.int .i64 q.c.ld,.string (pk q.c.nm)])).run Tryz.prog w=.ok () w:=fun w=>by
  simp [eqGuard,go_sem]
 have G2:∀ w,(binOp .eql 241 (.agg #[.int .i64 p.c.ld,.string (pk p.c.nm)]) (.agg #[.int .i64 q.c.ld,.string (pk q.c.nm)])).run Tryz.prog w=.ok (.bool R) w:=fun w=>by
  simp [binOp,EQ,go_sem]
 clear HR2 EQ
 clear h hx hy kp hlt hgl hpz hqz
 go_enter Tryz.func272,Tryz.ntmps272
 go_wp2
 refine Ze (C:=fun w'=>∃ s,w'=V s) (by kernel_rfl) (by kernel_rfl) (V2.out _ ((Below.refl _ _).drew)) ?_
 repeat (go_big_quiet_step (first|(go_at_call 106;exact HX.out _ _ rfl)|(go_at_call 106;exact HY.out _ _ rfl)|(go_at_call 223;exact HP.out _ _ _ _ _ _ _ (by first|exact HPZ.out|exact HQZ.out))))
 refine wpQuiet_nil ?_
 intro w9 hw9
 obtain ⟨s9,rfl⟩:=hw9
 go_wp2
 exact bodyPost_ret (results_tmp rfl _ _ _) rfl ⟨rfl,V1.out s9⟩
theorem samePk_c {b:Nat} {ps:List Plc} {W:World} (h:WAt b ps W) (hz:∀ q∈ps,q.c.nm.size≤maxLen) (x y:Int):Calls Tryz.prog 272 #[.pointer (some ⟨b,0,none⟩),.int .i64 x,.int .i64 y] W fun e w'=>e=.returned (.bool (spI ps x y))∧Bw W w':=by
 rcases Zl ps x with ⟨h1,_⟩|⟨k,p,rfl,h2,h1⟩
 ·have e:spI ps x y=false:=by rw [spI,h1]
  rw [e];exact Ziy h x y h1
 ·rcases Zl ps y with ⟨g1,_⟩|⟨j,q,rfl,g2,g1⟩
  ·have e:spI ps k y=false:=by rw [spI,h1,g1]
   rw [e];exact Zix h k y p h1 g1
  ·have e:spI ps k j=Zaz p q:=by rw [spI,h1,g1]
   rw [e];exact Ziw h k j p q h2 g2 (hz p (List.mem_of_getElem? h2)) (hz q (List.mem_of_getElem? g2))
def fitS (fl:Int) (k:Nat) (q:Plc):Bool:=!ifB q.c.fl&&(decide (k=0)||!ifB fl)
def fitI (_:Nat) (q:Plc):Bool:=ifB q.c.fl
theorem Xz {ps:List Plc} {key:List UInt8} {k:Nat} (h:Yd ps key=some k):∃ q,ps[k]?=some q∧Je q=key:=by
 obtain ⟨_,q,h1,h2⟩:=look_lt key ps 0 k h
 exact ⟨q,by simpa using h1,h2⟩
theorem abv_two (x:Except Int Nat):∃ r1 r2:Int,abvV x=.tuple #[.int .i64 r1,.int .i64 r2]:=by cases x <;> exact ⟨_,_,rfl⟩
theorem Zer (N b mb:Nat) (ps:List Plc) (vp:Value) (pv:List PV) (nm su:ByteArray) (fl ld:Int) (ai am:Option Addr) (ni ci nn cm:Nat) (W:World) (h:HW W N b mb ps vp pv) (hsz:su.size≤maxLen) (hnz:nm.size≤maxLen) (hqz:∀ q∈ps,q.c.nm.size≤maxLen) :
 Calls Tryz.prog 101 #[.pointer (some ⟨b,0,none⟩),.agg #[.string nm,.string su,.slice ai ni ci,.int .i64 fl,.int .i64 ld,.slice am nn cm]] W fun e w'=>e=.returned (abvV (Z3 ps nm ld (fitS fl) su.data.toList))∧Bw W w':=by
 obtain ⟨r1,r2,hR⟩:=abv_two (Z3 ps nm ld (fitS fl) su.data.toList)
 rw [hR]
 have hB2:Bw W ((W.alloc (.cells #[.pointer (some ⟨b,0,none⟩)] 24)).alloc (.cells #[.string nm,.string su,.slice ai ni ci,.int .i64 fl,.int .i64 ld,.slice am nn cm] 73)):=((Below.refl _ _).alloc (Nat.le_refl _) _).alloc (by simp) _
 have HA:Hid (Calls Tryz.prog 163 #[.pointer (some ⟨b,0,none⟩),.agg #[.string nm,.string su,.slice ai ni ci,.int .i64 fl,.int .i64 ld,.slice am nn cm],.string su,.func (.func 164) #[] #[.pointer (some ⟨W.heap.size,0,none⟩),.pointer (some ⟨W.heap.size+1,0,none⟩)]] ((W.alloc (.cells #[.pointer (some ⟨b,0,none⟩)] 24)).alloc (.cells #[.string nm,.string su,.slice ai ni ci,.int .i64 fl,.int .i64 ld,.slice am nn cm] 73)) fun e w'=>e=.returned (.tuple #[.int .i64 r1,.int .i64 r2])∧Bw W w'):=by
  have h0:=heap_alloc2_old W (.cells #[.pointer (some ⟨b,0,none⟩)] 24) (.cells #[.string nm,.string su,.slice ai ni ci,.int .i64 fl,.int .i64 ld,.slice am nn cm] 73)
  have h1:=heap_alloc2_new W (.cells #[.pointer (some ⟨b,0,none⟩)] 24) (.cells #[.string nm,.string su,.slice ai ni ci,.int .i64 fl,.int .i64 ld,.slice am nn cm] 73)
  have hz:((W.alloc (.cells #[.pointer (some ⟨b,0,none⟩)] 24)).alloc (.cells #[.string nm,.string su,.slice ai ni ci,.int .i64 fl,.int .i64 ld,.slice am nn cm] 73)).heap.size=W.heap.size+2:=by simp
  have hHW:=h.below hB2
  generalize (W.alloc (.cells #[.pointer (some ⟨b,0,none⟩)] 24)).alloc (.cells #[.string nm,.string su,.slice ai ni ci,.int .i64 fl,.int .i64 ld,.slice am nn cm] 73)=W2 at *
  cases hl:Yd ps su.data.toList with
  | none =>
    refine (Jb _ N b mb ps vp pv nm su fl ld _ _ su hsz W2 hHW hl).mono ?_
    rintro e w' ⟨rfl,hb⟩
    exact ⟨by rw [← hR,Z3,hl];rfl,Zb hB2 hb⟩
  | some k =>
    obtain ⟨q,hq,_⟩:=Xz hl
    refine (Zes W.heap.size (W.heap.size+1) N b mb ps vp pv nm su fl ld _ _ su hsz hnz W2 hHW k q hl hq (hqz q (List.mem_of_getElem? hq)) (fitS fl k q) (fun w hb=>?_)).mono ?_
    ·refine fits_any N b mb W.heap.size (W.heap.size+1) ps vp pv k q nm su fl ld _ _ w (hHW.below hb) hq ((hb.block _ (by rw [hz];omega)).trans h0) ((hb.block _ (by rw [hz];omega)).trans h1)
    ·rintro e w' ⟨rfl,hb⟩
     exact ⟨by rw [← hR,Z3,hl];simp only [hq],Zb hB2 hb⟩
 clear h hB2 hR
 go_enter Tryz.func101,Tryz.ntmps101
 go_wp2_with (go_at_call 163;refine HA.out.mono ?_;rintro e w1 ⟨rfl,hb⟩;have B1:Hid (Bw W w1):=hb;clear hb)
 exact bodyPost_ret (results_tmp2 rfl _ _ _) rfl ⟨rfl,B1.out⟩
end Go.Proofs.YtmafkabjjibcbaaGreat
