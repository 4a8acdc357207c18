import Derived.Test.YtlohdfpinmdljaaGreatDoorWdB
import Derived.Test.YtlohdfpinmdljaaGreatDoorShpD
import Derived.BigQuiet
import Derived.Lib.SliceRun
import Derived.Shelf.RegionOpen
set_option maxRecDepth 100000
namespace Go.Proofs.YtlohdfpinmdljaaGreatDoor
open Go.RowKit Go.Maps
def findH (nm ds:ByteArray):List HM→Nat→Int
  | [],_=>-1
  | m::r,k=>if (m.nm.toList == nm.toList)&&(m.ds.toList == ds.toList) then (k:Int) else findH nm ds r (k+1)
theorem findH_at {l:List HM} {nm ds:ByteArray} (k:Nat) (x:HM) (h:l[k]?=some x):findH nm ds (l.drop k) k=if (x.nm.toList == nm.toList)&&(x.ds.toList == ds.toList) then (k:Int) else findH nm ds (l.drop (k+1)) (k+1):=by
  obtain ⟨h1,h2⟩:=List.getElem?_eq_some_iff.1 h
  rw [List.drop_eq_getElem_cons h1,h2,findH]
set_option maxHeartbeats 4000000 in
theorem idxH_any (nm ds:ByteArray) (vm:Value) (N0:Nat) (qm:List (HM×Value)) (W:World) (b1 b2:Nat) (h:W.ownsRow N0 41 6 vm qm.length (flatH qm)) (hv:∀ x∈qm,∃ a n c,x.2=.slice a n c) (hn:qm.length≤1000000) (g1:W.cell? ⟨b1,0,none⟩=some (.string nm)) (g2:W.cell? ⟨b2,0,none⟩=some (.string ds)) (l1:b1<W.heap.size) (l2:b2<W.heap.size) :
    Calls Tryz.prog 195 #[vm,.func (.func 196) #[] #[.pointer (some ⟨b1,0,none⟩),.pointer (some ⟨b2,0,none⟩)]] W fun e w'=>e=.returned (.int .i64 (findH nm ds (qm.map Prod.fst) 0))∧Below W.heap.size W w':=by
  obtain ⟨ao,cap,rfl⟩:=ownv h
  obtain ⟨N,hN⟩:∃ N,qm.length=N:=⟨_,rfl⟩
  obtain ⟨ms,hms⟩:∃ ms,qm.map Prod.fst=ms:=⟨_,rfl⟩
  have HA:Hid (W.ownsRow N0 41 6 (.slice ao qm.length cap) qm.length (flatH qm)):=h
  have HN1:Hid (qm.length=N):=hN
  have HM1:Hid (qm.map Prod.fst=ms):=hms
  have HV:Hid (∀ x∈qm,∃ a n c,x.2=.slice a n c):=hv
  have G1:Hid _:=g1
  have G2:Hid _:=g2
  rw [hms]
  rw [hN] at hn ⊢
  clear hN hms h hv g1 g2
  go_enter Tryz.func195,Tryz.ntmps195
  go_wp2
  go_loopw [8] (fun iv wr=>∃ i:Nat,iv=.int .i64 i∧i≤N∧Hid (Below W.heap.size W wr)∧Hid (findH nm ds (ms.drop i) i=findH nm ds ms 0)) (fun iv _=>N - (intOf iv).toNat)
  case atStart=>exact ⟨0,rfl,Nat.zero_le _,Below.refl _ _,rfl⟩
  case round =>
    obtain ⟨i,rfl,hi,hb,hs⟩:=hrel
    by_cases hlt:i<N
    · have hlq:i<qm.length:=by rw [HN1.out];exact hlt
      obtain ⟨⟨x,vc⟩,hx⟩:∃ x,qm[i]?=some x:=⟨_,List.getElem?_eq_getElem hlq⟩
      have hxm:ms[i]?=some x:=by rw [← HM1.out,List.getElem?_map,hx];rfl
      obtain ⟨gm,cm,hform⟩:=Go.Joins.ownsRow_form HA.out (by omega)
      have hrow:=HA.out
      rw [hform] at hrow
      obtain ⟨va,vn,vcap,hvc⟩:=HV.out _ (List.mem_of_getElem? hx)
      simp only at hvc
      subst hvc
      have hat:=fun jj hj=>(hrow.cellAt (i * 6+jj) (by omega)).trans (flatH_at qm i _ hx jj hj)
      have e0:W.cell? ⟨gm,i * 6,none⟩=some (.string x.nm):=hat 0 (by omega)
      have e1:W.cell? ⟨gm,i * 6+1,none⟩=some (.string x.ds):=hat 1 (by omega)
      have e2:W.cell? ⟨gm,i * 6+2,none⟩=some (.int .i64 x.fl):=hat 2 (by omega)
      have e3:W.cell? ⟨gm,i * 6+3,none⟩=some (.int .i64 x.lo):=hat 3 (by omega)
      have e4:W.cell? ⟨gm,i * 6+4,none⟩=some (.int .i64 x.st):=hat 4 (by omega)
      have e5:W.cell? ⟨gm,i * 6+5,none⟩=some (.slice va vn vcap):=hat 5 (by omega)
      have hgl:gm<W.heap.size:=World.block_lt_of_cell? W _ e0
      replace e0:=(hb.out.cell (p:=⟨gm,i * 6,none⟩) hgl).trans e0
      replace e1:=(hb.out.cell (p:=⟨gm,i * 6+1,none⟩) hgl).trans e1
      replace e2:=(hb.out.cell (p:=⟨gm,i * 6+2,none⟩) hgl).trans e2
      replace e3:=(hb.out.cell (p:=⟨gm,i * 6+3,none⟩) hgl).trans e3
      replace e4:=(hb.out.cell (p:=⟨gm,i * 6+4,none⟩) hgl).trans e4
      replace e5:=(hb.out.cell (p:=⟨gm,i * 6+5,none⟩) hgl).trans e5
      injection hform with hao _ hcap
      subst hao hcap
      have hst:=findH_at (nm:=nm) (ds:=ds) i x hxm
      rw [hs.out] at hst
      have k1:=(hb.out.cell (p:=⟨b1,0,none⟩) l1).trans G1.out
      have k2:=(hb.out.cell (p:=⟨b2,0,none⟩) l2).trans G2.out
      have HC:Hid (Calls Tryz.prog 196 #[.agg #[.string x.nm,.string x.ds,.int .i64 x.fl,.int .i64 x.lo,.int .i64 x.st,.slice va vn vcap],.pointer (some ⟨b1,0,none⟩),.pointer (some ⟨b2,0,none⟩)] wr fun e w'=>e=.returned (.bool ((x.nm.toList == nm.toList)&&(x.ds.toList == ds.toList)))∧Below wr.heap.size wr w'):=isM_any x.nm x.ds nm ds x.fl x.lo x.st (.slice va vn vcap) b1 b2 wr k1 k2 (Nat.lt_of_lt_of_le l1 hb.out.size) (Nat.lt_of_lt_of_le l2 hb.out.size)
      generalize ((x.nm.toList == nm.toList)&&(x.ds.toList == ds.toList))=q at *
      clear hs HA hx hxm k1 k2 hat hrow HV hlq
      cases q with
      | true =>
        have HZ:Hid (findH nm ds ms 0=(i:Int)):=by rw [Hid,hst];rfl
        clear hst
        go_wp2_with (go_at_call 196;refine (HC.out).mono ?_;rintro e w1 ⟨rfl,hb1⟩)
        go_ret
        exact ⟨ret_int HZ.out.symm,Below.step hb.out hb1⟩
      | false =>
        have HZ:Hid (findH nm ds (ms.drop (i+1)) (i+1)=findH nm ds ms 0):=by rw [Hid,hst];rfl
        clear hst
        go_wp2_with (go_at_call 196;refine (HC.out).mono ?_;rintro e w1 ⟨rfl,hb1⟩;have hb2:Hid (Below W.heap.size W w1):=Below.step hb.out hb1;clear hb1)
        go_roundw
        case rel=>exact ⟨i+1,by go_num,by omega,hb2,HZ⟩
        case measure=>simp [intOf];omega
    · have e:i=N:=by omega
      subst e
      have HZ:Hid (findH nm ds ms 0=-1):=by rw [Hid,← hs.out,List.drop_of_length_le (by rw [← HM1.out,List.length_map,HN1.out];exact Nat.le_refl _)];rfl
      clear hs HA
      go_wp2
      go_ret
      exact ⟨ret_int HZ.out.symm,hb.out⟩
set_option maxHeartbeats 1000000 in
theorem findH_any (cn cs:ByteArray) (vi:Value) (cf cl:Int) (vm:Value) (N0:Nat) (qm:List (HM×Value)) (nm ds:ByteArray) (W:World) (h:W.ownsRow N0 41 6 vm qm.length (flatH qm)) (hv:∀ x∈qm,∃ a n c,x.2=.slice a n c) (hn:qm.length≤1000000) :
    Calls Tryz.prog 120 #[.agg #[.string cn,.string cs,vi,.int .i64 cf,.int .i64 cl,vm],.string nm,.string ds] W fun e w'=>e=.returned (.int .i64 (findH nm ds (qm.map Prod.fst) 0))∧Below W.heap.size W w':=by
  have H:Hid (∀ w b1 b2,Below W.heap.size W w→w.cell? ⟨b1,0,none⟩=some (.string nm)→w.cell? ⟨b2,0,none⟩=some (.string ds)→b1<w.heap.size→b2<w.heap.size→Calls Tryz.prog 195 #[vm,.func (.func 196) #[] #[.pointer (some ⟨b1,0,none⟩),.pointer (some ⟨b2,0,none⟩)]] w fun e w'=>e=.returned (.int .i64 (findH nm ds (qm.map Prod.fst) 0))∧Below w.heap.size w w'):=fun w b1 b2 hb g1 g2 l1 l2=>idxH_any nm ds vm N0 qm w b1 b2 (rowBelow h hb) hv hn g1 g2 l1 l2
  have hB:Hid (∀ o1 o2 o3,Below W.heap.size W (((W.alloc o1).alloc o2).alloc o3)):=fun o1 o2 o3=>(((Below.refl _ _).alloc (Nat.le_refl _) _).alloc (by simp) _).alloc (by simp;omega) _
  obtain ⟨ao,cap,rfl⟩:=ownv h
  generalize findH nm ds (qm.map Prod.fst) 0=Z at *
  generalize qm.length=M at *
  clear h hv hn
  go_enter Tryz.func120,Tryz.ntmps120
  go_wp2_with (go_at_call 195;(refine (H.out _ (W.heap.size+1) (W.heap.size+1+1) (hB.out _ _ _) ?_ ?_ ?_ ?_).mono ?_;simp [go_sem];simp [go_sem];simp [go_sem];simp [go_sem];rintro e w1 ⟨rfl,hb1⟩))
  go_ret
  exact ⟨rfl,Below.step (hB.out _ _ _) hb1⟩
def fndI (ps:List Plc) (c:Int) (nm ds:ByteArray):Int×Int:=match plcI ps c with
  | none=>(0,3)
  | some q=>if findH nm ds q.c.ms 0<0 then (0,6) else (findH nm ds q.c.ms 0,0)
set_option maxHeartbeats 1000000 in
theorem find_yes {b:Nat} {ps:List Plc} {W:World} (h:WAt b ps W) (k:Nat) (q:Plc) (hq:ps[k]?=some q) (hB:PlcB q) (nm ds:ByteArray):Calls Tryz.prog 280 #[.pointer (some ⟨b,0,none⟩),.int .i64 (k:Int),.string nm,.string ds] W fun e w'=>e=.returned (if findH nm ds q.c.ms 0<0 then .tuple #[.int .i64 0,.int .i64 6] else .tuple #[.int .i64 (findH nm ds q.c.ms 0),.int .i64 0])∧Below W.heap.size W w':=by
  have HX:Hid (∀ w:World,Below W.heap.size W w→Calls Tryz.prog 115 #[.pointer (some ⟨b,0,none⟩),.int .i64 (k:Int)] w fun e w'=>e=.returned (.bool true)∧w'=w):=fun w hb=>by
    have:=has_c (h.below hb) (k:Int)
    rw [plcI_nat,hq] at this
    exact this
  obtain ⟨N,mb,vp,pv,h⟩:=h
  have hkl:=(List.getElem?_eq_some_iff.1 hq).1
  obtain ⟨g,cap,p,rfl,hpl,hcell⟩:=h.at hq
  have b0:=cell_of_row W b 0 _ _ _ h.hb
  simp only [List.getElem?_toArray,List.getElem?_cons_zero] at b0
  obtain ⟨qm,hqm,hoc⟩:=hpl.own
  obtain ⟨ai,ci,hvi⟩:=ownv hoc.ifs
  obtain ⟨am,cm,hvm⟩:=ownv hoc.ms
  have c0:W.cell? ⟨g,k * 8,none⟩=some (.string q.c.nm):=by rw [← hpl.nm];exact hcell 0 (by omega)
  have c1:W.cell? ⟨g,k * 8+1,none⟩=some (.string q.c.su):=by rw [← hpl.su];exact hcell 1 (by omega)
  have c2:W.cell? ⟨g,k * 8+2,none⟩=some (.slice ai q.c.ni ci):=by rw [← hvi];exact hcell 2 (by omega)
  have c3:W.cell? ⟨g,k * 8+3,none⟩=some (.int .i64 q.c.fl):=by rw [← hpl.fl];exact hcell 3 (by omega)
  have c4:W.cell? ⟨g,k * 8+4,none⟩=some (.int .i64 q.c.ld):=by rw [← hpl.ld];exact hcell 4 (by omega)
  have c5:W.cell? ⟨g,k * 8+5,none⟩=some (.slice am qm.length cm):=by rw [← hvm];exact hcell 5 (by omega)
  have hlen:qm.length=q.c.ms.length:=by rw [← hqm];simp
  have HC:Hid (∀ w:World,Below W.heap.size W w→Calls Tryz.prog 120 #[.agg #[.string q.c.nm,.string q.c.su,.slice ai q.c.ni ci,.int .i64 q.c.fl,.int .i64 q.c.ld,.slice am qm.length cm],.string nm,.string ds] w fun e w'=>e=.returned (.int .i64 (findH nm ds q.c.ms 0))∧Below W.heap.size W w'):=by
    intro w hb
    rw [← hqm]
    refine (findH_any q.c.nm q.c.su _ q.c.fl q.c.ld _ N qm nm ds w (by rw [← hvm];exact rowBelow hoc.ms hb) (fun x hx=>?_) (by rw [hlen];exact hB.ms)).mono fun e w' zz=>⟨zz.1,bstep hb zz.2⟩
    obtain ⟨a,c,e⟩:=ownv (hoc.cod x hx)
    exact ⟨a,_,c,e⟩
  have hkI:(k:Int)<(ps.length:Int):=by omega
  generalize findH nm ds q.c.ms 0=Z at *
  generalize qm.length=M at *
  clear hcell hpl hq h hB hoc hvi hvm hqm hlen
  by_cases hz:Z<0
  · rw [if_pos hz]
    go_enter Tryz.func280,Tryz.ntmps280
    go_wp2_with (first
      | (go_at_call 115;refine (HX.out _ (by repeat (first|exact Below.refl _ _|refine Below.setCell ?_ (by simp;try omega) _|refine Below.alloc ?_ (by simp;try omega) _|refine Below.drew ?_))).mono ?_;rintro e w9 ⟨rfl,hw9⟩;rw [hw9];clear hw9 w9)
      | (go_at_call 120;refine (HC.out _ (by repeat (first|exact Below.refl _ _|refine Below.setCell ?_ (by simp;try omega) _|refine Below.alloc ?_ (by simp;try omega) _|refine Below.drew ?_))).mono ?_;rintro e w1 ⟨rfl,hb⟩;have B1:Hid (Below W.heap.size W w1):=hb;clear hb HC))
    exact bodyPost_ret (results_tmp2 rfl _ _ _) rfl ⟨rfl,B1.out⟩
  · rw [if_neg hz]
    go_enter Tryz.func280,Tryz.ntmps280
    go_wp2_with (first
      | (go_at_call 115;refine (HX.out _ (by repeat (first|exact Below.refl _ _|refine Below.setCell ?_ (by simp;try omega) _|refine Below.alloc ?_ (by simp;try omega) _|refine Below.drew ?_))).mono ?_;rintro e w9 ⟨rfl,hw9⟩;rw [hw9];clear hw9 w9)
      | (go_at_call 120;refine (HC.out _ (by repeat (first|exact Below.refl _ _|refine Below.setCell ?_ (by simp;try omega) _|refine Below.alloc ?_ (by simp;try omega) _|refine Below.drew ?_))).mono ?_;rintro e w1 ⟨rfl,hb⟩;have B1:Hid (Below W.heap.size W w1):=hb;clear hb HC))
    exact bodyPost_ret (results_tmp2 rfl _ _ _) rfl ⟨rfl,B1.out⟩
theorem find_no {b:Nat} {ps:List Plc} {W:World} (h:WAt b ps W) (c:Int) (hq:plcI ps c=none) (nm ds:ByteArray):Calls Tryz.prog 280 #[.pointer (some ⟨b,0,none⟩),.int .i64 c,.string nm,.string ds] W fun e w'=>e=.returned (.tuple #[.int .i64 0,.int .i64 3])∧Below W.heap.size W w':=by
  have HX:Hid (∀ w:World,Below W.heap.size W w→Calls Tryz.prog 115 #[.pointer (some ⟨b,0,none⟩),.int .i64 c] w fun e w'=>e=.returned (.bool false)∧w'=w):=fun w hb=>by
    have:=has_c (h.below hb) c
    rw [hq] at this
    exact this
  clear h hq
  go_enter Tryz.func280,Tryz.ntmps280
  go_wp2_with (go_at_call 115;refine (HX.out _ (by repeat (first|exact Below.refl _ _|refine Below.setCell ?_ (by simp;try omega) _|refine Below.alloc ?_ (by simp;try omega) _|refine Below.drew ?_))).mono ?_;rintro e w9 ⟨rfl,hw9⟩;rw [hw9];clear hw9 w9)
  exact bodyPost_ret (results_tmp2 rfl _ _ _) rfl ⟨rfl,(by repeat (first|exact Below.refl _ _|refine Below.setCell ?_ (by simp;try omega) _|refine Below.alloc ?_ (by simp;try omega) _|refine Below.drew ?_))⟩
theorem find_c {b:Nat} {ps:List Plc} {W:World} (h:WAt b ps W) (hB:∀ q∈ps,PlcB q) (c:Int) (nm ds:ByteArray):Calls Tryz.prog 280 #[.pointer (some ⟨b,0,none⟩),.int .i64 c,.string nm,.string ds] W fun e w'=>e=.returned (.tuple #[.int .i64 (fndI ps c nm ds).1,.int .i64 (fndI ps c nm ds).2])∧Below W.heap.size W w':=by
  rcases plcI_cases ps c with ⟨h1,h2⟩|⟨k,p,rfl,h2,h1⟩
  · have e:fndI ps c nm ds=(0,3):=by rw [fndI,h1]
    rw [e];exact find_no h c h1 nm ds
  · have e:fndI ps k nm ds=if findH nm ds p.c.ms 0<0 then (0,6) else (findH nm ds p.c.ms 0,0):=by rw [fndI,h1]
    rw [e]
    refine (find_yes h k p h2 (hB p (List.mem_of_getElem? h2)) nm ds).mono ?_
    rintro e w' ⟨rfl,hb⟩
    refine ⟨?_,hb⟩
    by_cases hz:findH nm ds p.c.ms 0<0
    · rw [if_pos hz,if_pos hz]
    · rw [if_neg hz,if_neg hz]
def hasS (ps:List Plc) (c i fl:Int):Bool:=match methI ps c i with
  | some m=>hasI m.fl fl
  | none=>false
set_option maxHeartbeats 1000000 in
theorem hasS_c {b:Nat} {ps:List Plc} {W:World} (h:WAt b ps W) (hB:∀ q∈ps,PlcB q) (c i fl:Int):Calls Tryz.prog 215 #[.pointer (some ⟨b,0,none⟩),.agg #[.int .i64 c,.int .i64 i],.int .i64 fl] W fun e w'=>e=.returned (.bool (hasS ps c i fl))∧Below W.heap.size W w':=by
  have HM:Hid (∀ w,Below W.heap.size W w→Calls Tryz.prog 84 #[.pointer (some ⟨b,0,none⟩),.agg #[.int .i64 c,.int .i64 i]] w fun e w'=>MthR w.heap.size (methI ps c i) e w'∧Below w.heap.size w w'):=fun w hb=>method_c (h.below hb) hB c i
  have HR:Hid (hasS ps c i fl=match methI ps c i with|some m=>hasI m.fl fl|none=>false):=rfl
  generalize hasS ps c i fl=R at *
  generalize methI ps c i=M at *
  clear h hB
  cases M with
  | none =>
    have hR:R=false:=HR.out
    subst hR
    go_enter Tryz.func215,Tryz.ntmps215
    go_wp2_with (go_at_call 84;refine (HM.out _ (by repeat (first|exact Below.refl _ _|refine Below.setCell ?_ (by simp;try omega) _|refine Below.alloc ?_ (by simp;try omega) _|refine Below.drew ?_))).mono ?_;rintro e w1 ⟨hr,hb⟩;have hr2:e=.returned noM:=hr;subst hr2;rw [noM];have B1:Hid (Below W.heap.size W w1):=bstep (by repeat (first|exact Below.refl _ _|refine Below.setCell ?_ (by simp;try omega) _|refine Below.alloc ?_ (by simp;try omega) _|refine Below.drew ?_)) hb;clear hb HM hr)
    exact bodyPost_ret (v:=.bool false) (by simp [results,Tryz.results215,go_sem]) rfl ⟨rfl,B1.out.alloc B1.out.size _⟩
  | some m =>
    have hR:R=(bits .and .i64 m.fl fl != 0):=HR.out
    cases hq:(bits .and .i64 m.fl fl != 0) with
    | true =>
      rw [hq] at hR
      subst hR
      clear HR
      go_enter Tryz.func215,Tryz.ntmps215
      go_wp2_with (go_at_call 84;refine (HM.out _ (by repeat (first|exact Below.refl _ _|refine Below.setCell ?_ (by simp;try omega) _|refine Below.alloc ?_ (by simp;try omega) _|refine Below.drew ?_))).mono ?_;rintro e w1 ⟨⟨v,hr,ho⟩,hb⟩;subst hr;obtain ⟨a',c',rfl⟩:=ownv ho;have B1:Hid (Below W.heap.size W w1):=bstep (by repeat (first|exact Below.refl _ _|refine Below.setCell ?_ (by simp;try omega) _|refine Below.alloc ?_ (by simp;try omega) _|refine Below.drew ?_)) hb;clear hb HM ho)
      exact bodyPost_ret (v:=.bool true) (by simp [results,Tryz.results215,go_sem, *]) rfl ⟨rfl,B1.out.alloc B1.out.size _⟩
    | false =>
      rw [hq] at hR
      subst hR
      clear HR
      go_enter Tryz.func215,Tryz.ntmps215
      go_wp2_with (go_at_call 84;refine (HM.out _ (by repeat (first|exact Below.refl _ _|refine Below.setCell ?_ (by simp;try omega) _|refine Below.alloc ?_ (by simp;try omega) _|refine Below.drew ?_))).mono ?_;rintro e w1 ⟨⟨v,hr,ho⟩,hb⟩;subst hr;obtain ⟨a',c',rfl⟩:=ownv ho;have B1:Hid (Below W.heap.size W w1):=bstep (by repeat (first|exact Below.refl _ _|refine Below.setCell ?_ (by simp;try omega) _|refine Below.alloc ?_ (by simp;try omega) _|refine Below.drew ?_)) hb;clear hb HM ho)
      exact bodyPost_ret (v:=.bool false) (by simp [results,Tryz.results215,go_sem, *]) rfl ⟨rfl,B1.out.alloc B1.out.size _⟩
def cand1 (ps:List Plc) (nm ds:ByteArray) (i:Nat):List (Int×Int) :=
  if (fndI ps i nm ds).2=0∧hasS ps i (fndI ps i nm ds).1 10=false then [((i:Int),(fndI ps i nm ds).1)] else []
def candL (ps:List Plc) (nm ds:ByteArray) (cl:List Nat):List (Int×Int):=cl.flatMap (cand1 ps nm ds)
theorem candL_app (ps:List Plc) (nm ds:ByteArray) (a b:List Nat):candL ps nm ds (a++b)=candL ps nm ds a++candL ps nm ds b:=by
  rw [candL,List.flatMap_append];rfl
theorem candL_take {ps:List Plc} {nm ds:ByteArray} {cl:List Nat} {k i:Nat} (h:cl[k]?=some i):candL ps nm ds (cl.take (k+1))=candL ps nm ds (cl.take k)++cand1 ps nm ds i:=by
  rw [List.take_add_one,h,candL_app]
  congr 1
  show List.flatMap (cand1 ps nm ds) [i]=_
  simp
theorem cand1_len (ps:List Plc) (nm ds:ByteArray) (i:Nat):(cand1 ps nm ds i).length≤1:=by
  rw [cand1];split <;> simp
theorem candL_len (ps:List Plc) (nm ds:ByteArray) (cl:List Nat):(candL ps nm ds cl).length≤cl.length:=by
  induction cl with
  | nil=>exact Nat.le_refl _
  | cons i r ih =>
    have:=cand1_len ps nm ds i
    have e:candL ps nm ds (i::r)=cand1 ps nm ds i++candL ps nm ds r:=by rw [candL,List.flatMap_cons];rfl
    rw [e,List.length_append,List.length_cons];omega
def flatD (l:List (Int×Int)):List Value:=l.flatMap fun p=>[.int .i64 p.1,.int .i64 p.2]
theorem flatD_length (l:List (Int×Int)):(flatD l).length=l.length * 2:=by
  induction l with
  | nil=>rfl
  | cons t ts ih=>simp only [flatD,List.flatMap_cons,List.length_append] at *;rw [ih];simp;omega
theorem flatD_app (a b:List (Int×Int)):flatD (a++b)=flatD a++flatD b:=by rw [flatD,List.flatMap_append];rfl
theorem flatD_at (l:List (Int×Int)) (k:Nat) (p:Int×Int) (h:l[k]?=some p):(flatD l)[k * 2]?=some (.int .i64 p.1)∧(flatD l)[k * 2+1]?=some (.int .i64 p.2):=by
  induction l generalizing k with
  | nil=>simp at h
  | cons u ts ih =>
    have e:flatD (u::ts)=[.int .i64 u.1,.int .i64 u.2]++flatD ts:=by simp [flatD]
    rw [e]
    cases k with
    | zero=>simp at h;subst h;simp
    | succ k =>
      simp at h
      obtain ⟨h1,h2⟩:=ih k h
      rw [List.getElem?_append_right (by simp;omega),List.getElem?_append_right (by simp;omega)]
      constructor
      · rw [← h1];congr 1;simp;omega
      · rw [← h2];congr 1;simp;omega
theorem flatD_one (l:List (Int×Int)):∀ u∈flatD l,u.oneCell'=true:=by
  intro u hu
  rw [flatD,List.mem_flatMap] at hu
  obtain ⟨p,_,hp⟩:=hu
  simp at hp
  rcases hp with rfl|rfl <;> rfl
theorem Tryz.hinfoD:(Tryz.prog.info? 138).map (fun i=>(i.zero,i.size,i.bytes))=some (some (.agg #[.int .i64 0,.int .i64 0]),2,16):=by kernel_rfl
set_option maxHeartbeats 4000000 in
theorem cand_yes {b:Nat} {ps:List Plc} {W:World} (h:WAt b ps W) (hpb:∀ q∈ps,PlcB q) (hlen:ps.length≤300) (k:Nat) (q:Plc) (hq:ps[k]?=some q) (nm ds:ByteArray):Calls Tryz.prog 272 #[.pointer (some ⟨b,0,none⟩),.int .i64 (k:Int),.string nm,.string ds] W fun e w'=>(∃ v,e=.returned (.tuple #[v,.int .i64 0])∧w'.ownsRow W.heap.size 138 2 v (candL ps nm ds q.cl).length (flatD (candL ps nm ds q.cl)))∧Below W.heap.size W w':=by
  obtain ⟨i0,hi0,hz0,hz1,hz2⟩:=info_parts Tryz.hinfoD
  have HW0:Hid (WAt b ps W):=h
  have HPB:Hid (∀ q∈ps,PlcB q):=hpb
  obtain ⟨K,hK⟩:∃ K,q.cl.length=K:=⟨_,rfl⟩
  have HK:Hid (q.cl.length=K):=hK
  have hKb:K≤300:=by
    obtain ⟨N,mb,vp,pv,h⟩:=h
    have hwf:=h.wf q (List.mem_of_getElem? hq)
    have:=nodup_lt_len _ _ hwf.2 hwf.1
    omega
  have HC:Hid (∀ w,Below W.heap.size W w→Calls Tryz.prog 310 #[.pointer (some ⟨b,0,none⟩),.int .i64 (k:Int)] w fun e w'=>∃ v,e=.returned (.tuple #[v,.int .i64 0])∧w'.ownsRow w.heap.size 3 1 v q.cl.length (q.cl.map numV)∧Below w.heap.size w w'):=fun w hb=>by
    obtain ⟨N,mb,vp,pv,h⟩:=h.below hb
    exact closure_yes N b mb ps vp pv k q w h hq hlen
  clear h hpb hq hK
  go_enter Tryz.func272,Tryz.ntmps272
  go_wp2_with (first
    | (go_at_call 310;refine (HC.out _ (Below.refl _ _)).mono ?_;rintro e w1 ⟨v,rfl,ho,hb⟩;rw [HK.out] at ho;obtain ⟨ca,cc,rfl⟩:=ownv ho;have O1:Hid (w1.ownsRow W.heap.size 3 1 (.slice ca K cc) K (q.cl.map numV)):=ho;have B1:Hid (Below W.heap.size W w1):=hb;have HW1:Hid (WAt b ps w1):=HW0.out.below hb;clear ho hb HC))
  go_loopw [12,31] (fun sv kv wr=>∃ (j:Nat),kv=.int .i64 j∧j≤K∧Hid (wr.ownsRow w1.heap.size 138 2 sv (candL ps nm ds (q.cl.take j)).length (flatD (candL ps nm ds (q.cl.take j))))∧Hid (Below w1.heap.size w1 wr)) (fun _ kv _=>K - (intOf kv).toNat)
  case atStart=>exact ⟨0,rfl,Nat.zero_le _,World.ownsRow_nil _ _ _ _,Below.refl _ _⟩
  case round =>
    obtain ⟨j,rfl,hj,hO,hB⟩:=hrel
    by_cases hlt:j<K
    · have hjl:j<q.cl.length:=by rw [HK.out];exact hlt
      obtain ⟨i,hi⟩:∃ i,q.cl[j]?=some i:=⟨_,List.getElem?_eq_getElem hjl⟩
      obtain ⟨g,c2,hform⟩:=Go.Joins.ownsRow_form O1.out (by omega)
      have hce:w1.cell? ⟨g,j,none⟩=some (.int .i64 (i:Int)):=by
        have hrow:=O1.out
        rw [hform] at hrow
        rw [hrow.cellAt j (by omega),List.getElem?_map,hi];rfl
      injection hform with hca _ hcc
      subst hca hcc
      have hgl:g<w1.heap.size:=World.block_lt_of_cell? w1 _ hce
      have hcr:=(hB.out.cell (p:=⟨g,j,none⟩) hgl).trans hce
      have hst:=candL_take (ps:=ps) (nm:=nm) (ds:=ds) hi
      have hal:(candL ps nm ds (q.cl.take j)).length≤300:=by
        have:=candL_len ps nm ds (q.cl.take j)
        rw [List.length_take] at this
        omega
      have HF:Hid (Calls Tryz.prog 280 #[.pointer (some ⟨b,0,none⟩),.int .i64 (i:Int),.string nm,.string ds] wr fun e w'=>e=.returned (.tuple #[.int .i64 (fndI ps i nm ds).1,.int .i64 (fndI ps i nm ds).2])∧Below wr.heap.size wr w'):=find_c (HW1.out.below hB.out) HPB.out i nm ds
      have HS:Hid (∀ w,Below w1.heap.size w1 w→Calls Tryz.prog 215 #[.pointer (some ⟨b,0,none⟩),.agg #[.int .i64 (i:Int),.int .i64 (fndI ps i nm ds).1],.int .i64 10] w fun e w'=>e=.returned (.bool (hasS ps i (fndI ps i nm ds).1 10))∧Below w.heap.size w w'):=fun w hb=>hasS_c (HW1.out.below hb) HPB.out i _ 10
      rw [cand1] at hst
      obtain ⟨L,hL⟩:∃ L,candL ps nm ds (q.cl.take j)=L:=⟨_,rfl⟩
      rw [hL] at hst hal hO
      obtain ⟨va,vn,rfl⟩:=ownv hO.out
      generalize fndI ps i nm ds=F at *
      obtain ⟨F1,F2⟩:=F
      simp only at hst HF HS
      generalize hasS ps i F1 10=S at *
      clear hce hi hjl hL
      have HST:Hid _:=hst
      clear hst
      by_cases hF:F2=0
      · subst hF
        cases S with
        | true =>
          have hst2:candL ps nm ds (List.take (j+1) q.cl)=L:=by rw [HST.out,if_neg (by simp)];simp
          clear HST
          go_wp2_with (first
            | (go_at_call 280;refine HF.out.mono ?_;rintro e w2 ⟨rfl,hb⟩;have B2:Hid (Below w1.heap.size w1 w2):=bstep hB.out hb;have O2:Hid (w2.ownsRow w1.heap.size 138 2 (.slice va L.length vn) L.length (flatD L)):=rowBelow hO.out hb;clear hb HF)
            | (go_at_call 215;refine (HS.out _ (B2.out.alloc B2.out.size _)).mono ?_;rintro e w3 ⟨rfl,hb⟩;have B3:Hid (Below w1.heap.size w1 w3):=bstep (B2.out.alloc B2.out.size _) hb;have O3:Hid (w3.ownsRow w1.heap.size 138 2 (.slice va L.length vn) L.length (flatD L)):=rowBelow (O2.out.alloc _) hb;clear hb HS))
          refine ⟨⟨j+1,by simp,by omega,?_,B3⟩,by simp [intOf];omega⟩
          rw [hst2];exact O3
        | false =>
          have hst2:candL ps nm ds (List.take (j+1) q.cl)=L++[((i:Int),F1)]:=by rw [HST.out,if_pos ⟨rfl,rfl⟩]
          clear HST
          go_wp2_with (first
            | (go_at_call 280;refine HF.out.mono ?_;rintro e w2 ⟨rfl,hb⟩;have B2:Hid (Below w1.heap.size w1 w2):=bstep hB.out hb;have O2:Hid (w2.ownsRow w1.heap.size 138 2 (.slice va L.length vn) L.length (flatD L)):=rowBelow hO.out hb;clear hb HF)
            | (go_at_call 215;refine (HS.out _ (B2.out.alloc B2.out.size _)).mono ?_;rintro e w3 ⟨rfl,hb⟩;have B3:Hid (Below w1.heap.size w1 w3):=bstep (B2.out.alloc B2.out.size _) hb;have O3:Hid (w3.ownsRow w1.heap.size 138 2 (.slice va L.length vn) L.length (flatD L)):=rowBelow (O2.out.alloc _) hb;have m0:w3.cell? ⟨w2.heap.size,0,none⟩=some (.int .i64 (i:Int)):=(hb.cell (p:=⟨w2.heap.size,0,none⟩) (by simp)).trans (by simp [go_sem]);have m1:w3.cell? ⟨w2.heap.size,1,none⟩=some (.int .i64 F1):=(hb.cell (p:=⟨w2.heap.size,1,none⟩) (by simp)).trans (by simp [go_sem]);clear hb HS)
            | (at_builtin;refine wpList_append_own _ rfl _ _ 316 rfl w1.heap.size 138 i0 (.agg #[.int .i64 0,.int .i64 0]) 2 16 Tryz.underlying316 hi0 hz0 hz1 hz2 rfl (by decide) (.slice va L.length vn) L.length (flatD L) rfl (O3.out.alloc _) ⟨w3.heap.size,0,none⟩ 1 1 [.int .i64 (i:Int),.int .i64 F1] rfl rfl ?c1 ?c2 ?c3 ?c4 ?c5 ?_))
          case c1=>intro jj u hj;rw [addr_add];match jj,hj with
            | 0,hj=>simp at hj;subst hj;simp [go_sem]
            | 1,hj=>simp at hj;subst hj;simp [go_sem]
            | (jj+2),hj=>simp at hj
          case c2=>intro u hu;simp at hu;rcases hu with rfl|rfl <;> rfl
          case c3=>unfold maxLen;omega
          case c4=>omega
          case c5=>have:=B3.out.size;simp;omega
          intro v' w4 hown hgrow _
          obtain ⟨va2,vn2,rfl⟩:=ownv hown
          have B4:Hid (Below w1.heap.size w1 w4):=by
            have hb1:Below w1.heap.size w1 (w3.alloc (.cells #[.int .i64 (i:Int),.int .i64 F1] 138)):=B3.out.alloc B3.out.size _
            refine hb1.grown hgrow hb1.size (fun x hx=>?_)
            have:=(O3.out.lt x hx).1
            omega
          have O4:Hid (w4.ownsRow w1.heap.size 138 2 (.slice va2 (L.length+1) vn2) (L++[((i:Int),F1)]).length (flatD (L++[((i:Int),F1)]))):=by
            rw [Hid,List.length_append,flatD_app];exact hown
          go_wp2
          refine ⟨⟨j+1,by simp,by omega,?_,B4⟩,by simp [intOf];omega⟩
          rw [hst2];exact O4
      · have hst2:candL ps nm ds (List.take (j+1) q.cl)=L:=by rw [HST.out,if_neg (fun h=>hF h.1)];simp
        clear HST
        go_wp2_with (first
          | (go_at_call 280;refine HF.out.mono ?_;rintro e w2 ⟨rfl,hb⟩;have B2:Hid (Below w1.heap.size w1 w2):=bstep hB.out hb;have O2:Hid (w2.ownsRow w1.heap.size 138 2 (.slice va L.length vn) L.length (flatD L)):=rowBelow hO.out hb;clear hb HF))
        refine ⟨⟨j+1,by simp,by omega,?_,B2.out.alloc B2.out.size _⟩,by simp [intOf];omega⟩
        rw [hst2];exact O2.out.alloc _
    · have e:j=K:=by omega
      subst e
      have HE:Hid (candL ps nm ds (q.cl.take j)=candL ps nm ds q.cl):=by rw [Hid,List.take_of_length_le (by rw [HK.out];exact Nat.le_refl _)]
      rw [HE.out] at hO
      obtain ⟨va,vn,rfl⟩:=ownv hO.out
      go_wp2
      exact bodyPost_ret (results_tmp2 rfl _ _ _) rfl ⟨⟨_,rfl,Go.Joins.ownsRow_le hO.out B1.out.size⟩,B1.out.trans (hB.out.mono B1.out.size)⟩
def idxP (p:Int×Int→Bool):List (Int×Int)→Nat→Int
  | [],_=>-1
  | m::r,k=>if p m then (k:Int) else idxP p r (k+1)
theorem idxP_at {p:Int×Int→Bool} {l:List (Int×Int)} (k:Nat) (x:Int×Int) (h:l[k]?=some x):idxP p (l.drop k) k=if p x then (k:Int) else idxP p (l.drop (k+1)) (k+1):=by
  obtain ⟨h1,h2⟩:=List.getElem?_eq_some_iff.1 h
  rw [List.drop_eq_getElem_cons h1,h2,idxP]
theorem idxP_range (p:Int×Int→Bool):∀ (l:List (Int×Int)) (k:Nat),(idxP p l k=-1∧l.any p=false)∨∃ j:Nat,idxP p l k=((k+j:Nat):Int)∧j<l.length∧l.any p=true∧(∀ m∈l.take j,p m=false)∧∃ m,l[j]?=some m∧p m=true
  | [],_=>.inl ⟨rfl,rfl⟩
  | m::r,k=>by
    rw [idxP]
    cases e:p m with
    | true=>exact .inr ⟨0,by simp,by simp,by simp [e],by simp,m,rfl,e⟩
    | false =>
      rcases idxP_range p r (k+1) with ⟨h,h2⟩|⟨j,h,hj,h2,h3,x,h4,h5⟩
      · exact .inl ⟨by simpa using h,by simp [e,h2]⟩
      · refine .inr ⟨j+1,by simp only [Bool.false_eq_true,if_false];rw [h];congr 1;omega,by simp;omega,by simp [h2],?_,x,by rw [List.getElem?_cons_succ];exact h4,h5⟩
        intro y hy
        rw [List.take_succ_cons] at hy
        rcases List.mem_cons.1 hy with rfl|hy
        · exact e
        · exact h3 y hy
def PredD (g:Nat) (cb:Array Value) (p:Int×Int→Bool) (l:List (Int×Int)) (N:Nat) (W:World):Prop:=∀ m∈l,∀ w,Below N W w→Calls Tryz.prog g (#[.agg #[.int .i64 m.1,.int .i64 m.2]]++cb) w fun e w'=>e=.returned (.bool (p m))∧Below w.heap.size w w'
theorem rowD_cells {w:World} {N:Nat} {l:List (Int×Int)} {g cap:Nat} (h:w.ownsRow N 138 2 (.slice (some ⟨g,0,none⟩) l.length cap) l.length (flatD l)) {i:Nat} {x:Int×Int} (hx:l[i]?=some x):w.cell? ⟨g,i * 2,none⟩=some (.int .i64 x.1)∧w.cell? ⟨g,i * 2+1,none⟩=some (.int .i64 x.2)∧g<w.heap.size:=by
  have hi:=(List.getElem?_eq_some_iff.1 hx).1
  obtain ⟨h1,h2⟩:=flatD_at l i x hx
  have c0:w.cell? ⟨g,i * 2,none⟩=some (.int .i64 x.1):=(h.cellAt (i * 2) (by omega)).trans h1
  exact ⟨c0,(h.cellAt (i * 2+1) (by omega)).trans h2,World.block_lt_of_cell? w _ c0⟩
set_option maxHeartbeats 4000000 in
theorem idxD_any (g:Nat) (eg:∀ args w,(callFunc g args).run Tryz.prog w=.ok (.enter g args) w) (cb:Array Value) (p:Int×Int→Bool) (N:Nat) (l:List (Int×Int)) (v:Value) (W:World) (h:W.ownsRow N 138 2 v l.length (flatD l)) (hn:l.length≤1000000) (hp:PredD g cb p l W.heap.size W) :
    Calls Tryz.prog 277 #[v,.func (.func g) #[] cb] W fun e w'=>e=.returned (.int .i64 (idxP p l 0))∧Below W.heap.size W w':=by
  obtain ⟨ao,cap,rfl⟩:=ownv h
  obtain ⟨K,hK⟩:∃ K,l.length=K:=⟨_,rfl⟩
  have HA:Hid (W.ownsRow N 138 2 (.slice ao l.length cap) l.length (flatD l)):=h
  have HK:Hid (l.length=K):=hK
  have HP:Hid (PredD g cb p l W.heap.size W):=hp
  rw [hK] at hn ⊢
  clear hK h hp
  go_enter Tryz.func277,Tryz.ntmps277
  go_wp2
  go_loopw [8] (fun iv wr=>∃ i:Nat,iv=.int .i64 i∧i≤K∧Hid (Below W.heap.size W wr)∧Hid (idxP p (l.drop i) i=idxP p l 0)) (fun iv _=>K - (intOf iv).toNat)
  case atStart=>exact ⟨0,rfl,Nat.zero_le _,Below.refl _ _,rfl⟩
  case round =>
    obtain ⟨i,rfl,hi,hb,hs⟩:=hrel
    by_cases hlt:i<K
    · have hlq:i<l.length:=by rw [HK.out];exact hlt
      obtain ⟨x,hx⟩:∃ x,l[i]?=some x:=⟨_,List.getElem?_eq_getElem hlq⟩
      obtain ⟨gm,cm,hform⟩:=Go.Joins.ownsRow_form HA.out (by omega)
      have hrow:=HA.out
      rw [hform] at hrow
      obtain ⟨e0,e1,hgl⟩:=rowD_cells hrow hx
      replace e0:=(hb.out.cell (p:=⟨gm,i * 2,none⟩) hgl).trans e0
      replace e1:=(hb.out.cell (p:=⟨gm,i * 2+1,none⟩) hgl).trans e1
      injection hform with hao _ hcap
      subst hao hcap
      have hst:=idxP_at (p:=p) i x hx
      rw [hs.out] at hst
      have HC:Hid (Calls Tryz.prog g (#[.agg #[.int .i64 x.1,.int .i64 x.2]]++cb) wr fun e w'=>e=.returned (.bool (p x))∧Below wr.heap.size wr w'):=HP.out x (List.mem_of_getElem? hx) wr hb.out
      generalize p x=q at *
      obtain ⟨x1,x2⟩:=x
      simp only at e0 e1 HC
      clear hs HA hx hrow hlq HP
      cases q with
      | true =>
        have HZ:Hid (idxP p l 0=(i:Int)):=by rw [Hid,hst];rfl
        clear hst
        go_wp2_with (go_at_fn g;refine (HC.out).mono ?_;rintro e w1 ⟨rfl,hb1⟩)
        go_ret
        exact ⟨ret_int HZ.out.symm,Below.step hb.out hb1⟩
      | false =>
        have HZ:Hid (idxP p (l.drop (i+1)) (i+1)=idxP p l 0):=by rw [Hid,hst];rfl
        clear hst
        go_wp2_with (go_at_fn g;refine (HC.out).mono ?_;rintro e w1 ⟨rfl,hb1⟩;have hb2:Hid (Below W.heap.size W w1):=Below.step hb.out hb1;clear hb1)
        go_roundw
        case rel=>exact ⟨i+1,by go_num,by omega,hb2,HZ⟩
        case measure=>simp [intOf];omega
    · have e:i=K:=by omega
      subst e
      have HZ:Hid (idxP p l 0=-1):=by rw [Hid,← hs.out,List.drop_of_length_le (by rw [HK.out];exact Nat.le_refl _)];rfl
      clear hs HA HP
      go_wp2
      go_ret
      exact ⟨ret_int HZ.out.symm,hb.out⟩
theorem conD_any (g:Nat) (eg:∀ args w,(callFunc g args).run Tryz.prog w=.ok (.enter g args) w) (cb:Array Value) (p:Int×Int→Bool) (N:Nat) (l:List (Int×Int)) (v:Value) (W:World) (h:W.ownsRow N 138 2 v l.length (flatD l)) (hn:l.length≤1000000) (hp:PredD g cb p l W.heap.size W) :
    Calls Tryz.prog 275 #[v,.func (.func g) #[] cb] W fun e w'=>e=.returned (.bool (l.any p))∧Below W.heap.size W w':=by
  have HI:Hid (Calls Tryz.prog 277 #[v,.func (.func g) #[] cb] W fun e w'=>e=.returned (.int .i64 (idxP p l 0))∧Below W.heap.size W w'):=idxD_any g eg cb p N l v W h hn hp
  rcases idxP_range p l 0 with ⟨e,e2⟩|⟨j,e,_,e2,_⟩
  · rw [e] at HI
    rw [e2]
    obtain ⟨ao,cap,rfl⟩:=ownv h
    clear h hp e e2
    go_enter Tryz.func275,Tryz.ntmps275
    go_wp2_with (go_at_call 277;refine HI.out.mono ?_;rintro e w1 ⟨rfl,hb⟩;have B1:Hid (Below W.heap.size W w1):=hb;clear hb HI)
    exact bodyPost_ret (results_tmp rfl _ _ _) rfl ⟨rfl,B1.out⟩
  · rw [e,Nat.zero_add] at HI
    rw [e2]
    obtain ⟨ao,cap,rfl⟩:=ownv h
    clear h hp e e2
    go_enter Tryz.func275,Tryz.ntmps275
    go_wp2_with (go_at_call 277;refine HI.out.mono ?_;rintro e w1 ⟨rfl,hb⟩;have B1:Hid (Below W.heap.size W w1):=hb;clear hb HI)
    exact bodyPost_ret (results_tmp rfl _ _ _) rfl ⟨rfl,B1.out⟩
end Go.Proofs.YtlohdfpinmdljaaGreatDoor
