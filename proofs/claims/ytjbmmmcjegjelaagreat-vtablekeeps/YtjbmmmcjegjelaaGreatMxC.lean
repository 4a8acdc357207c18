import Derived.Test.YtjbmmmcjegjelaaGreatHrQ
import Derived.Test.YtjbmmmcjegjelaaGreatShpB
import Derived.BigQuiet
import Derived.Lib.SliceRun
import Derived.Shelf.RegionOpen
import Derived.Test.YtjbmmmcjegjelaaGreatSq
set_option maxHeartbeats 4000000
set_option maxRecDepth 100000
namespace Go.Proofs.YtjbmmmcjegjelaaGreat
open Go.RowKit Go.Maps
def Z6 (nm ds:ByteArray):List HM→Nat→Int
  | [],_=>-1
  | m::r,k=>if (m.nm.toList == nm.toList)&&(m.ds.toList == ds.toList) then (k:Int) else Z6 nm ds r (k+1)
theorem findH_at {l:List HM} {nm ds:ByteArray} (k:Nat) (x:HM) (h:l[k]?=some x):Z6 nm ds (l.drop k) k=if (x.nm.toList == nm.toList)&&(x.ds.toList == ds.toList) then (k:Int) else Z6 nm ds (l.drop (k+1)) (k+1):=by
  obtain ⟨h1,h2⟩:=List.getElem?_eq_some_iff.1 h
  rw [List.drop_eq_getElem_cons h1,h2,Z6]
theorem Zbt (nm ds:ByteArray):∀ (l:List HM) (k:Nat),Z6 nm ds l k=-1∨∃ (j:Nat) (m:HM),Z6 nm ds l k=((k+j:Nat):Int)∧l[j]?=some m∧m.nm.toList=nm.toList∧m.ds.toList=ds.toList
  | [],_=>.inl rfl
  | m::r,k=>by
    rw [Z6]
    cases e:(m.nm.toList == nm.toList)&&(m.ds.toList == ds.toList) with
    | true =>
      simp only [Bool.and_eq_true,beq_iff_eq] at e
      exact .inr ⟨0,m,by simp,rfl,e.1,e.2⟩
    | false =>
      rcases Zbt nm ds r (k+1) with h|⟨j,x,h,hj⟩
      · exact .inl (by simpa using h)
      · exact .inr ⟨j+1,x,by simp only [Bool.false_eq_true,if_false];rw [h];congr 1;omega,by rw [List.getElem?_cons_succ];exact hj⟩
theorem idxH_any (nm ds:ByteArray) (vm:Value) (N0:Nat) (qm:List (HM×Value)) (W:World) (b1 b2:Nat) (h:W.ownsRow N0 64 6 vm qm.length (Zx qm)) (hv:∀ x∈qm,∃ a n c,x.2=.slice a n c) (hn:qm.length≤1000000) (g1:W.cell? ⟨b1,0,none⟩=some (.string nm)) (g2:W.cell? ⟨b2,0,none⟩=some (.string ds)) (l1:b1<W.heap.size) (l2:b2<W.heap.size) :
    Calls Tryz.prog 134 #[vm,.func (.func 135) #[] #[.pointer (some ⟨b1,0,none⟩),.pointer (some ⟨b2,0,none⟩)]] W fun e w'=>e=.returned (.int .i64 (Z6 nm ds (qm.map Prod.fst) 0))∧Below W.heap.size W w':=by
  obtain ⟨ao,cap,rfl⟩:=ownv h
  obtain ⟨N,hN⟩:∃ N,qm.length=N:=⟨_,rfl⟩
  obtain ⟨ms,hms⟩:∃ ms,qm.map Prod.fst=ms:=⟨_,rfl⟩
  have HA:Hid (W.ownsRow N0 64 6 (.slice ao qm.length cap) qm.length (Zx qm)):=h
  have HN1:Hid (qm.length=N):=hN
  have HM1:Hid (qm.map Prod.fst=ms):=hms
  have HV:Hid (∀ x∈qm,∃ a n c,x.2=.slice a n c):=hv
  have G1:Hid _:=g1
  have G2:Hid _:=g2
  rw [hms]
  rw [hN] at hn ⊢
  clear hN hms h hv g1 g2
  go_enter Tryz.func134,Tryz.ntmps134
  go_wp2
  go_loopw [8] (fun iv wr=>∃ i:Nat,iv=.int .i64 i∧i≤N∧Hid (Below W.heap.size W wr)∧Hid (Z6 nm ds (ms.drop i) i=Z6 nm ds ms 0)) (fun iv _=>N - (intOf iv).toNat)
  case atStart=>exact ⟨0,rfl,Nat.zero_le _,Below.refl _ _,rfl⟩
  case round =>
    obtain ⟨i,rfl,hi,hb,hs⟩:=hrel
    by_cases hlt:i<N
    · have hlq:i<qm.length:=by rw [HN1.out];exact hlt
      obtain ⟨⟨x,vc⟩,hx⟩:∃ x,qm[i]?=some x:=⟨_,List.getElem?_eq_getElem hlq⟩
      have hxm:ms[i]?=some x:=by rw [← HM1.out,List.getElem?_map,hx];rfl
      obtain ⟨gm,cm,hform⟩:=Go.Joins.ownsRow_form HA.out (by omega)
      have hrow:=HA.out
      rw [hform] at hrow
      obtain ⟨va,vn,vcap,hvc⟩:=HV.out _ (List.mem_of_getElem? hx)
      simp only at hvc
      subst hvc
      have hat:=fun jj hj=>(hrow.cellAt (i * 6+jj) (by omega)).trans (Zv qm i _ hx jj hj)
      have e0:W.cell? ⟨gm,i * 6,none⟩=some (.string x.nm):=hat 0 (by omega)
      have e1:W.cell? ⟨gm,i * 6+1,none⟩=some (.string x.ds):=hat 1 (by omega)
      have e2:W.cell? ⟨gm,i * 6+2,none⟩=some (.int .i64 x.fl):=hat 2 (by omega)
      have e3:W.cell? ⟨gm,i * 6+3,none⟩=some (.int .i64 x.lo):=hat 3 (by omega)
      have e4:W.cell? ⟨gm,i * 6+4,none⟩=some (.int .i64 x.st):=hat 4 (by omega)
      have e5:W.cell? ⟨gm,i * 6+5,none⟩=some (.slice va vn vcap):=hat 5 (by omega)
      have hgl:gm<W.heap.size:=World.block_lt_of_cell? W _ e0
      replace e0:=(hb.out.cell (p:=⟨gm,i * 6,none⟩) hgl).trans e0
      replace e1:=(hb.out.cell (p:=⟨gm,i * 6+1,none⟩) hgl).trans e1
      replace e2:=(hb.out.cell (p:=⟨gm,i * 6+2,none⟩) hgl).trans e2
      replace e3:=(hb.out.cell (p:=⟨gm,i * 6+3,none⟩) hgl).trans e3
      replace e4:=(hb.out.cell (p:=⟨gm,i * 6+4,none⟩) hgl).trans e4
      replace e5:=(hb.out.cell (p:=⟨gm,i * 6+5,none⟩) hgl).trans e5
      injection hform with hao _ hcap
      subst hao hcap
      have hst:=findH_at (nm:=nm) (ds:=ds) i x hxm
      rw [hs.out] at hst
      have k1:=(hb.out.cell (p:=⟨b1,0,none⟩) l1).trans G1.out
      have k2:=(hb.out.cell (p:=⟨b2,0,none⟩) l2).trans G2.out
      have HC:Hid (Calls Tryz.prog 135 #[.agg #[.string x.nm,.string x.ds,.int .i64 x.fl,.int .i64 x.lo,.int .i64 x.st,.slice va vn vcap],.pointer (some ⟨b1,0,none⟩),.pointer (some ⟨b2,0,none⟩)] wr fun e w'=>e=.returned (.bool ((x.nm.toList == nm.toList)&&(x.ds.toList == ds.toList)))∧Below wr.heap.size wr w'):=Zk5 x.nm x.ds nm ds x.fl x.lo x.st (.slice va vn vcap) b1 b2 wr k1 k2 (Nat.lt_of_lt_of_le l1 hb.out.size) (Nat.lt_of_lt_of_le l2 hb.out.size)
      generalize ((x.nm.toList == nm.toList)&&(x.ds.toList == ds.toList))=q at *
      clear hs HA hx hxm k1 k2 hat hrow HV hlq
      cases q with
      | true =>
        have HZ:Hid (Z6 nm ds ms 0=(i:Int)):=by rw [Hid,hst];rfl
        clear hst
        go_wp2_with (go_at_call 135;refine (HC.out).mono ?_;rintro e w1 ⟨rfl,hb1⟩)
        go_ret
        exact ⟨Zg HZ.out.symm,Below.step hb.out hb1⟩
      | false =>
        have HZ:Hid (Z6 nm ds (ms.drop (i+1)) (i+1)=Z6 nm ds ms 0):=by rw [Hid,hst];rfl
        clear hst
        go_wp2_with (go_at_call 135;refine (HC.out).mono ?_;rintro e w1 ⟨rfl,hb1⟩;have hb2:Hid (Below W.heap.size W w1):=Below.step hb.out hb1;clear hb1)
        go_roundw
        case rel=>exact ⟨i+1,by go_num,by omega,hb2,HZ⟩
        case measure=>simp [intOf];omega
    · have e:i=N:=by omega
      subst e
      have HZ:Hid (Z6 nm ds ms 0=-1):=by rw [Hid,← hs.out,List.drop_of_length_le (by rw [← HM1.out,List.length_map,HN1.out];exact Nat.le_refl _)];rfl
      clear hs HA
      go_wp2
      go_ret
      exact ⟨Zg HZ.out.symm,hb.out⟩
theorem Zll (cn cs:ByteArray) (vi:Value) (cf cl:Int) (vm:Value) (N0:Nat) (qm:List (HM×Value)) (nm ds:ByteArray) (W:World) (h:W.ownsRow N0 64 6 vm qm.length (Zx qm)) (hv:∀ x∈qm,∃ a n c,x.2=.slice a n c) (hn:qm.length≤1000000) :
    Calls Tryz.prog 101 #[.agg #[.string cn,.string cs,vi,.int .i64 cf,.int .i64 cl,vm],.string nm,.string ds] W fun e w'=>e=.returned (.int .i64 (Z6 nm ds (qm.map Prod.fst) 0))∧Below W.heap.size W w':=by
  have H:Hid (∀ w b1 b2,Below W.heap.size W w→w.cell? ⟨b1,0,none⟩=some (.string nm)→w.cell? ⟨b2,0,none⟩=some (.string ds)→b1<w.heap.size→b2<w.heap.size→Calls Tryz.prog 134 #[vm,.func (.func 135) #[] #[.pointer (some ⟨b1,0,none⟩),.pointer (some ⟨b2,0,none⟩)]] w fun e w'=>e=.returned (.int .i64 (Z6 nm ds (qm.map Prod.fst) 0))∧Below w.heap.size w w'):=fun w b1 b2 hb g1 g2 l1 l2=>idxH_any nm ds vm N0 qm w b1 b2 (Za h hb) hv hn g1 g2 l1 l2
  have hB:Hid (∀ o1 o2 o3,Below W.heap.size W (((W.alloc o1).alloc o2).alloc o3)):=fun o1 o2 o3=>(((Below.refl _ _).alloc (Nat.le_refl _) _).alloc (by simp) _).alloc (by simp;omega) _
  obtain ⟨ao,cap,rfl⟩:=ownv h
  generalize Z6 nm ds (qm.map Prod.fst) 0=Z at *
  generalize qm.length=M at *
  clear h hv hn
  go_enter Tryz.func101,Tryz.ntmps101
  go_wp2_with (go_at_call 134;(refine (H.out _ (W.heap.size+1) (W.heap.size+1+1) (hB.out _ _ _) ?_ ?_ ?_ ?_).mono ?_;simp [go_sem];simp [go_sem];simp [go_sem];simp [go_sem];rintro e w1 ⟨rfl,hb1⟩))
  go_ret
  exact ⟨rfl,Below.step (hB.out _ _ _) hb1⟩
def fndI (ps:List Plc) (c:Int) (nm ds:ByteArray):Int×Int:=match plcI ps c with
  | none=>(0,3)
  | some q=>if Z6 nm ds q.c.ms 0<0 then (0,6) else (Z6 nm ds q.c.ms 0,0)
theorem find_yes {b:Nat} {ps:List Plc} {W:World} (h:WAt b ps W) (k:Nat) (q:Plc) (hq:ps[k]?=some q) (hB:PlcB q) (nm ds:ByteArray):Calls Tryz.prog 180 #[.pointer (some ⟨b,0,none⟩),.int .i64 (k:Int),.string nm,.string ds] W fun e w'=>e=.returned (if Z6 nm ds q.c.ms 0<0 then .tuple #[.int .i64 0,.int .i64 6] else .tuple #[.int .i64 (Z6 nm ds q.c.ms 0),.int .i64 0])∧Below W.heap.size W w':=by
  have HX:Hid (∀ w:World,Below W.heap.size W w→Calls Tryz.prog 58 #[.pointer (some ⟨b,0,none⟩),.int .i64 (k:Int)] w fun e w'=>e=.returned (.bool true)∧w'=w):=fun w hb=>by
    have:=Zbl (h.below hb) (k:Int)
    rw [Z8,hq] at this
    exact this
  obtain ⟨N,mb,vp,pv,h⟩:=h
  have hkl:=(List.getElem?_eq_some_iff.1 hq).1
  obtain ⟨g,cap,p,rfl,hpl,hcell⟩:=h.at hq
  have b0:=cell_of_row W b 0 _ _ _ h.hb
  simp only [List.getElem?_toArray,List.getElem?_cons_zero] at b0
  obtain ⟨qm,hqm,hoc⟩:=hpl.own
  obtain ⟨ai,ci,hvi⟩:=ownv hoc.ifs
  obtain ⟨am,cm,hvm⟩:=ownv hoc.ms
  have c0:W.cell? ⟨g,k * 8,none⟩=some (.string q.c.nm):=by rw [← hpl.nm];exact hcell 0 (by omega)
  have c1:W.cell? ⟨g,k * 8+1,none⟩=some (.string q.c.su):=by rw [← hpl.su];exact hcell 1 (by omega)
  have c2:W.cell? ⟨g,k * 8+2,none⟩=some (.slice ai q.c.ni ci):=by rw [← hvi];exact hcell 2 (by omega)
  have c3:W.cell? ⟨g,k * 8+3,none⟩=some (.int .i64 q.c.fl):=by rw [← hpl.fl];exact hcell 3 (by omega)
  have c4:W.cell? ⟨g,k * 8+4,none⟩=some (.int .i64 q.c.ld):=by rw [← hpl.ld];exact hcell 4 (by omega)
  have c5:W.cell? ⟨g,k * 8+5,none⟩=some (.slice am qm.length cm):=by rw [← hvm];exact hcell 5 (by omega)
  have hlen:qm.length=q.c.ms.length:=by rw [← hqm];simp
  have HC:Hid (∀ w:World,Below W.heap.size W w→Calls Tryz.prog 101 #[.agg #[.string q.c.nm,.string q.c.su,.slice ai q.c.ni ci,.int .i64 q.c.fl,.int .i64 q.c.ld,.slice am qm.length cm],.string nm,.string ds] w fun e w'=>e=.returned (.int .i64 (Z6 nm ds q.c.ms 0))∧Below W.heap.size W w'):=by
    intro w hb
    rw [← hqm]
    refine (Zll q.c.nm q.c.su _ q.c.fl q.c.ld _ N qm nm ds w (by rw [← hvm];exact Za hoc.ms hb) (fun x hx=>?_) (by rw [hlen];exact hB.ms)).mono fun e w' zz=>⟨zz.1,Zc hb zz.2⟩
    obtain ⟨a,c,e⟩:=ownv (hoc.cod x hx)
    exact ⟨a,_,c,e⟩
  have hkI:(k:Int)<(ps.length:Int):=by omega
  generalize Z6 nm ds q.c.ms 0=Z at *
  generalize qm.length=M at *
  clear hcell hpl hq h hB hoc hvi hvm hqm hlen
  by_cases hz:Z<0
  · rw [if_pos hz]
    go_enter Tryz.func180,Tryz.ntmps180
    go_wp2_with (first
      | (go_at_call 58;refine (HX.out _ sqR).mono ?_;rintro e w9 ⟨rfl,hw9⟩;rw [hw9];clear hw9 w9)
      | (go_at_call 101;refine (HC.out _ sqR).mono ?_;rintro e w1 ⟨rfl,hb⟩;have B1:Hid (Below W.heap.size W w1):=hb;clear hb HC))
    exact bodyPost_ret (results_tmp2 rfl _ _ _) rfl ⟨rfl,B1.out⟩
  · rw [if_neg hz]
    go_enter Tryz.func180,Tryz.ntmps180
    go_wp2_with (first
      | (go_at_call 58;refine (HX.out _ sqR).mono ?_;rintro e w9 ⟨rfl,hw9⟩;rw [hw9];clear hw9 w9)
      | (go_at_call 101;refine (HC.out _ sqR).mono ?_;rintro e w1 ⟨rfl,hb⟩;have B1:Hid (Below W.heap.size W w1):=hb;clear hb HC))
    exact bodyPost_ret (results_tmp2 rfl _ _ _) rfl ⟨rfl,B1.out⟩
theorem find_no {b:Nat} {ps:List Plc} {W:World} (h:WAt b ps W) (c:Int) (hq:plcI ps c=none) (nm ds:ByteArray):Calls Tryz.prog 180 #[.pointer (some ⟨b,0,none⟩),.int .i64 c,.string nm,.string ds] W fun e w'=>e=.returned (.tuple #[.int .i64 0,.int .i64 3])∧Below W.heap.size W w':=by
  have HX:Hid (∀ w:World,Below W.heap.size W w→Calls Tryz.prog 58 #[.pointer (some ⟨b,0,none⟩),.int .i64 c] w fun e w'=>e=.returned (.bool false)∧w'=w):=fun w hb=>by
    have:=Zbl (h.below hb) c
    rw [hq] at this
    exact this
  clear h hq
  go_enter Tryz.func180,Tryz.ntmps180
  go_wp2_with (go_at_call 58;refine (HX.out _ sqR).mono ?_;rintro e w9 ⟨rfl,hw9⟩;rw [hw9];clear hw9 w9)
  exact bodyPost_ret (results_tmp2 rfl _ _ _) rfl ⟨rfl,sqR⟩
theorem find_c {b:Nat} {ps:List Plc} {W:World} (h:WAt b ps W) (hB:∀ q∈ps,PlcB q) (c:Int) (nm ds:ByteArray):Calls Tryz.prog 180 #[.pointer (some ⟨b,0,none⟩),.int .i64 c,.string nm,.string ds] W fun e w'=>e=.returned (.tuple #[.int .i64 (fndI ps c nm ds).1,.int .i64 (fndI ps c nm ds).2])∧Below W.heap.size W w':=by
  rcases Zn ps c with ⟨h1,h2⟩|⟨k,p,rfl,h2,h1⟩
  · have e:fndI ps c nm ds=(0,3):=by rw [fndI,h1]
    rw [e];exact find_no h c h1 nm ds
  · have e:fndI ps k nm ds=if Z6 nm ds p.c.ms 0<0 then (0,6) else (Z6 nm ds p.c.ms 0,0):=by rw [fndI,h1]
    rw [e]
    refine (find_yes h k p h2 (hB p (List.mem_of_getElem? h2)) nm ds).mono ?_
    rintro e w' ⟨rfl,hb⟩
    refine ⟨?_,hb⟩
    by_cases hz:Z6 nm ds p.c.ms 0<0
    · rw [if_pos hz,if_pos hz]
    · rw [if_neg hz,if_neg hz]
def Zm (l:List (Int×Int)):List Value:=l.flatMap fun p=>[.int .i64 p.1,.int .i64 p.2]
theorem Zfx (l:List (Int×Int)):(Zm l).length=l.length * 2:=by
  induction l with
  | nil=>rfl
  | cons t ts ih=>simp only [Zm,List.flatMap_cons,List.length_append] at *;rw [ih];simp;omega
theorem Xe (a b:List (Int×Int)):Zm (a++b)=Zm a++Zm b:=by rw [Zm,List.flatMap_append];rfl
theorem Zd1 (l:List (Int×Int)) (k:Nat) (p:Int×Int) (h:l[k]?=some p):(Zm l)[k * 2]?=some (.int .i64 p.1)∧(Zm l)[k * 2+1]?=some (.int .i64 p.2):=by
  induction l generalizing k with
  | nil=>simp at h
  | cons u ts ih =>
    have e:Zm (u::ts)=[.int .i64 u.1,.int .i64 u.2]++Zm ts:=by simp [Zm]
    rw [e]
    cases k with
    | zero=>simp at h;subst h;simp
    | succ k =>
      simp at h
      obtain ⟨h1,h2⟩:=ih k h
      rw [List.getElem?_append_right (by simp;omega),List.getElem?_append_right (by simp;omega)]
      constructor
      · rw [← h1];congr 1;simp;omega
      · rw [← h2];congr 1;simp;omega
theorem Zfw (l:List (Int×Int)):∀ u∈Zm l,u.oneCell'=true:=by
  intro u hu
  rw [Zm,List.mem_flatMap] at hu
  obtain ⟨p,_,hp⟩:=hu
  simp at hp
  rcases hp with rfl|rfl <;> rfl
theorem Tryz.hinfoD:(Tryz.prog.info? 39).map (fun i=>(i.zero,i.size,i.bytes))=some (some (.agg #[.int .i64 0,.int .i64 0]),2,16):=by kernel_rfl
theorem Yx {w:World} {N:Nat} {l:List (Int×Int)} {g cap:Nat} (h:w.ownsRow N 39 2 (.slice (some ⟨g,0,none⟩) l.length cap) l.length (Zm l)) {i:Nat} {x:Int×Int} (hx:l[i]?=some x):w.cell? ⟨g,i * 2,none⟩=some (.int .i64 x.1)∧w.cell? ⟨g,i * 2+1,none⟩=some (.int .i64 x.2)∧g<w.heap.size:=by
  have hi:=(List.getElem?_eq_some_iff.1 hx).1
  obtain ⟨h1,h2⟩:=Zd1 l i x hx
  have c0:w.cell? ⟨g,i * 2,none⟩=some (.int .i64 x.1):=(h.cellAt (i * 2) (by omega)).trans h1
  exact ⟨c0,(h.cellAt (i * 2+1) (by omega)).trans h2,World.block_lt_of_cell? w _ c0⟩
end Go.Proofs.YtjbmmmcjegjelaaGreat
