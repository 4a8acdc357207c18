import Derived.Test.YtlohdfpinmdljaaGreatDoorChecked
import Derived.Test.YtlohdfpinmdljaaGreatDoorFlagsPure
import Derived.Test.YtlohdfpinmdljaaGreatDoorOwnC
import Derived.Test.YtlohdfpinmdljaaGreatDoorRefDesc
import Derived.WalkKit
import Derived.WalkSpells
import Derived.WalkLawsBesides
import Derived.Lib.Walk
import Derived.Lib.PathFns
import Derived.Deep.LoopGhost
import Derived.Deep.RegionWith
import Derived.Deep.QuietTactic
import Derived.BigQuiet
set_option maxRecDepth 100000
namespace Go.Proofs.YtlohdfpinmdljaaGreatDoor
open Go.RowKit
theorem fret_bool {a b:Bool} (h:a=b):Ending.returned (.bool a)=.returned (.bool b):=by rw [h]
theorem fret_int {k:IntKind} {a b:Int} (h:a=b):Ending.returned (.int k a)=.returned (.int k b):=by rw [h]
def chkC (f:Int):Int:=if !onlyB f clsP then 1 else if hasI f 512&&(!hasI f 1024||hasI f 16||hasI f 32) then 1 else if hasI f 16&&hasI f 1024 then 1 else 0
def visN (f:Int):Nat:=(if hasI f 1 then 1 else 0)+(if hasI f 2 then 1 else 0)+(if hasI f 4 then 1 else 0)
def chkM (f:Int) (iface ini:Bool):Int:=if !onlyB f mthP then 1 else if decide (1<visN f) then 1 else if hasI f 1024&&(hasI f 2||hasI f 8||hasI f 16) then 1
  else if iface&&(hasI f 4||hasI f 16||decide (visN f=0)||ini) then 1 else if ini&&(hasI f 8||hasI f 16||hasI f 1024) then 1 else 0
def openI (f:Int):Int:=if hasI f 1 then 1 else if hasI f 4 then 4 else if hasI f 2 then 2 else 0
structure Mth where
  nm:ByteArray
  ds:ByteArray
  fl:Int
  lo:Int
  st:Int
  code:List Ins
structure Cls where
  nm:ByteArray
  su:ByteArray
  ifs:List (List UInt8)
  fl:Int
  ld:Int
  ms:List Mth
def MthAt (w:World) (bk o:Nat) (m:Mth):Prop :=
  w.cell? ⟨bk,o,none⟩=some (.string m.nm)∧w.cell? ⟨bk,o+1,none⟩=some (.string m.ds)∧w.cell? ⟨bk,o+2,none⟩=some (.int .i64 m.fl)∧w.cell? ⟨bk,o+3,none⟩=some (.int .i64 m.lo)∧w.cell? ⟨bk,o+4,none⟩=some (.int .i64 m.st)∧∃ v,w.cell? ⟨bk,o+5,none⟩=some v∧IsInss w v m.code
theorem MthAt.keep {w w':World} {bk o:Nat} {m:Mth} (h:MthAt w bk o m) (hb:Below w.heap.size w w') (hlt:bk<w.heap.size):MthAt w' bk o m:=by
  obtain ⟨h0,h1,h2,h3,h4,v,h5,h6⟩:=h
  exact ⟨(hb.cell hlt).trans h0,(hb.cell hlt).trans h1,(hb.cell hlt).trans h2,(hb.cell hlt).trans h3,(hb.cell hlt).trans h4,v,(hb.cell hlt).trans h5,h6.keep hb⟩
def IsMths (w:World) (v:Value) (l:List Mth):Prop :=
  ∃ ao cap,v=.slice ao l.length cap∧l.length≤cap∧cap≤maxLen ∧
    (l≠[]→∃ bk o,ao=some ⟨bk,o,none⟩∧bk<w.heap.size∧∀ k m,l[k]?=some m→MthAt w bk (o+k * 6) m)
theorem IsMths.keep {w w':World} {v:Value} {l:List Mth} (h:IsMths w v l) (hb:Below w.heap.size w w'):IsMths w' v l:=by
  obtain ⟨ao,cap,rfl,h1,h2,h3⟩:=h
  refine ⟨ao,cap,rfl,h1,h2,fun hne=>?_⟩
  obtain ⟨bk,o,e,hlt,hc⟩:=h3 hne
  exact ⟨bk,o,e,Nat.lt_of_lt_of_le hlt hb.size,fun k i hk=>(hc k i hk).keep hb hlt⟩
def clsV (c:Cls) (vi vm:Value):Value:=.agg #[.string c.nm,.string c.su,vi,.int .i64 c.fl,.int .i64 c.ld,vm]
def findM (nm ds:ByteArray):List Mth→Nat→Int
  | [],_=>-1
  | m::r,k=>if (m.nm.toList == nm.toList)&&(m.ds.toList == ds.toList) then k else findM nm ds r (k+1)
theorem findM_at {l:List Mth} {nm ds:ByteArray} (k:Nat) (x:Mth) (h:l[k]?=some x):findM nm ds (l.drop k) k=if (x.nm.toList == nm.toList)&&(x.ds.toList == ds.toList) then (k:Int) else findM nm ds (l.drop (k+1)) (k+1):=by
  obtain ⟨h1,h2⟩:=List.getElem?_eq_some_iff.1 h
  rw [List.drop_eq_getElem_cons h1,h2,findM]
set_option maxHeartbeats 1000000 in
theorem within_any (n a b:Int) (w:World):Calls Tryz.prog 57 #[.int .i64 n,.int .i64 a,.int .i64 b] w fun e w'=>e=.returned (.bool (decide (a≤n)&&decide (n≤b)))∧w'=w:=by
  go_enter Tryz.func57,Tryz.ntmps57
  by_cases h1:a≤n
  · by_cases h2:n≤b
    · go_wp2
      go_ret
      exact ⟨ret_bool (by simp [h1,h2]),rfl⟩
    · go_wp2
      go_ret
      exact ⟨ret_bool (by simp;omega),rfl⟩
  · go_wp2
    go_ret
    exact ⟨ret_bool (by simp;omega),rfl⟩
set_option maxHeartbeats 1000000 in
theorem isM_any (xn xd nm ds:ByteArray) (xf xl xs:Int) (vc:Value) (b1 b2:Nat) (w:World) (g1:w.cell? ⟨b1,0,none⟩=some (.string nm)) (g2:w.cell? ⟨b2,0,none⟩=some (.string ds)) (l1:b1<w.heap.size) (l2:b2<w.heap.size) :
    Calls Tryz.prog 196 #[.agg #[.string xn,.string xd,.int .i64 xf,.int .i64 xl,.int .i64 xs,vc],.pointer (some ⟨b1,0,none⟩),.pointer (some ⟨b2,0,none⟩)] w fun e w'=>e=.returned (.bool ((xn.toList == nm.toList)&&(xd.toList == ds.toList)))∧Below w.heap.size w w':=by
  generalize hz:((xn.toList == nm.toList)&&(xd.toList == ds.toList))=z
  have HZ:Hid _:=hz
  clear hz
  cases q1:(xn.toList == nm.toList) with
  | false =>
    go_enter Tryz.func196,Tryz.ntmps196
    go_wp2
    go_ret
    exact ⟨ret_bool (by rw [← HZ.out,q1];rfl),(Below.refl _ _).alloc (Nat.le_refl _) _⟩
  | true =>
    cases q2:(xd.toList == ds.toList) with
    | false =>
      go_enter Tryz.func196,Tryz.ntmps196
      go_wp2
      go_ret
      exact ⟨ret_bool (by rw [← HZ.out,q1,q2];rfl),(Below.refl _ _).alloc (Nat.le_refl _) _⟩
    | true =>
      go_enter Tryz.func196,Tryz.ntmps196
      go_wp2
      go_ret
      exact ⟨ret_bool (by rw [← HZ.out,q1,q2];rfl),(Below.refl _ _).alloc (Nat.le_refl _) _⟩
set_option maxHeartbeats 4000000 in
theorem idxM_any (nm ds:ByteArray) (vm:Value) (ms:List Mth) (W:World) (b1 b2:Nat) (h:IsMths W vm ms) (g1:W.cell? ⟨b1,0,none⟩=some (.string nm)) (g2:W.cell? ⟨b2,0,none⟩=some (.string ds)) (l1:b1<W.heap.size) (l2:b2<W.heap.size) :
    Calls Tryz.prog 195 #[vm,.func (.func 196) #[] #[.pointer (some ⟨b1,0,none⟩),.pointer (some ⟨b2,0,none⟩)]] W fun e w'=>e=.returned (.int .i64 (findM nm ds ms 0))∧Below W.heap.size W w':=by
  obtain ⟨ao,cap,rfl,h1,h2,h3⟩:=h
  obtain ⟨N,hN⟩:∃ N,ms.length=N:=⟨_,rfl⟩
  unfold maxLen at h2
  rw [hN] at h1 ⊢
  have HN1:Hid (ms.length=N):=hN
  have HA:Hid _:=h3
  have G1:Hid _:=g1
  have G2:Hid _:=g2
  clear hN h3 g1 g2
  go_enter Tryz.func195,Tryz.ntmps195
  go_wp2
  go_loopw [8] (fun iv wr=>∃ i:Nat,iv=.int .i64 i∧i≤N∧Hid (Below W.heap.size W wr)∧Hid (findM nm ds (ms.drop i) i=findM nm ds ms 0)) (fun iv _=>N - (intOf iv).toNat)
  case atStart=>exact ⟨0,rfl,Nat.zero_le _,Below.refl _ _,rfl⟩
  case round =>
    obtain ⟨i,rfl,hi,hb,hs⟩:=hrel
    by_cases hlt:i<N
    · obtain ⟨bk,o,hao,hbk,hc⟩:=HA.out (by intro e;have:=HN1.out;rw [e] at this;simp at this;omega)
      obtain ⟨x,hx⟩:∃ x,ms[i]?=some x:=⟨_,List.getElem?_eq_getElem (by rw [HN1.out];exact hlt)⟩
      subst hao
      have hst:=findM_at (nm:=nm) (ds:=ds) i x hx
      rw [hs.out] at hst
      have hcx:=(hc i x hx).keep hb.out hbk
      obtain ⟨xn,xd,xf,xl,xs,xc⟩:=x
      obtain ⟨p0,p1,p2,p3,p4,vc,p5,hI⟩:=hcx
      obtain ⟨va,vcap,rfl,_,_,_⟩:=hI
      simp only at p0 p1 p2 p3 p4 p5 hst
      have k1:=(hb.out.cell l1).trans G1.out
      have k2:=(hb.out.cell l2).trans G2.out
      have HC:Hid (Calls Tryz.prog 196 #[.agg #[.string xn,.string xd,.int .i64 xf,.int .i64 xl,.int .i64 xs,.slice va xc.length vcap],.pointer (some ⟨b1,0,none⟩),.pointer (some ⟨b2,0,none⟩)] wr fun e w'=>e=.returned (.bool ((xn.toList == nm.toList)&&(xd.toList == ds.toList)))∧Below wr.heap.size wr w'):=isM_any xn xd nm ds xf xl xs (.slice va xc.length vcap) b1 b2 wr k1 k2 (Nat.lt_of_lt_of_le l1 hb.out.size) (Nat.lt_of_lt_of_le l2 hb.out.size)
      generalize ((xn.toList == nm.toList)&&(xd.toList == ds.toList))=q at *
      clear hc hs HA hx k1 k2
      cases q with
      | true =>
        have HZ:Hid (findM nm ds ms 0=(i:Int)):=by rw [Hid,hst];rfl
        clear hst
        go_wp2_with (go_at_call 196;refine (HC.out).mono ?_;rintro e w1 ⟨rfl,hb1⟩)
        go_ret
        exact ⟨ret_int HZ.out.symm,Below.step hb.out hb1⟩
      | false =>
        have HZ:Hid (findM nm ds (ms.drop (i+1)) (i+1)=findM nm ds ms 0):=by rw [Hid,hst];rfl
        clear hst
        go_wp2_with (go_at_call 196;refine (HC.out).mono ?_;rintro e w1 ⟨rfl,hb1⟩;have hb2:Hid (Below W.heap.size W w1):=Below.step hb.out hb1;clear hb1)
        go_roundw
        case rel=>exact ⟨i+1,by go_num,by omega,hb2,HZ⟩
        case measure=>simp [intOf];omega
    · have e:i=N:=by omega
      subst e
      have HZ:Hid (findM nm ds ms 0=-1):=by rw [Hid,← hs.out,List.drop_of_length_le (by rw [HN1.out];exact Nat.le_refl _)];rfl
      clear hs HA
      go_wp2
      go_ret
      exact ⟨ret_int HZ.out.symm,hb.out⟩
set_option maxHeartbeats 1000000 in
theorem find_any (cn cs:ByteArray) (vi:Value) (cf cl:Int) (vm:Value) (ms:List Mth) (nm ds:ByteArray) (W:World) (h:IsMths W vm ms) :
    Calls Tryz.prog 120 #[.agg #[.string cn,.string cs,vi,.int .i64 cf,.int .i64 cl,vm],.string nm,.string ds] W fun e w'=>e=.returned (.int .i64 (findM nm ds ms 0))∧Below W.heap.size W w':=by
  have H:Hid (IsMths W vm ms):=h
  have hB:Hid (∀ o1 o2 o3,Below W.heap.size W (((W.alloc o1).alloc o2).alloc o3)):=fun o1 o2 o3=>(((Below.refl _ _).alloc (Nat.le_refl _) _).alloc (by simp) _).alloc (by simp;omega) _
  obtain ⟨ao,cap,rfl,_,_,_⟩:=h
  go_enter Tryz.func120,Tryz.ntmps120
  go_wp2_with (go_at_call 195;(refine (idxM_any nm ds _ ms _ (W.heap.size+1) (W.heap.size+1+1) ?_ ?_ ?_ ?_ ?_).mono ?_;exact H.out.keep (hB.out _ _ _);simp [go_sem];simp [go_sem];simp [go_sem];simp [go_sem];rintro e w1 ⟨rfl,hb1⟩))
  go_ret
  exact ⟨rfl,Below.step (hB.out _ _ _) hb1⟩
theorem pdD_len (l:List UInt8):(pdD l).1.length≤20:=by
  unfold pdD
  split
  · rename_i h
    unfold pdE at h
    split at h
    · exact absurd h (by decide)
    · split at h
      · exact absurd h (by decide)
      · rename_i d hd
        split at h
        · exact absurd h (by decide)
        · rename_i hg
          simp only [largeD,Bool.not_eq_true,Bool.or_eq_false_iff,decide_eq_false_iff_not] at hg
          rw [hd]
          have:=hg.1.1
          simp only [Option.getD_some]
          omega
  · simp
def wdsN (ds:List UInt8) (fl:Int):Int:=if pdE ds=0 then ((pdD ds).1.length:Int)+(if hasI fl 8 then 0 else 1) else 0
def wdsE (ds:List UInt8):Int:=if pdE ds=0 then 0 else 1
def mthB (m:Mth) (iface:Bool):Bool :=
  memberL m.nm.data.toList&&(chkM m.fl iface (m.nm.toList == [60,105,110,105,116,62]) == 0)&&(pdE m.ds.data.toList == 0)&&!((m.nm.toList == [60,105,110,105,116,62])&&!voidB (pdD m.ds.data.toList).2) &&
    (if hasI m.fl 1024 then (m.lo == 0) && (m.st == 0) && ((m.code.length : Int) == 0)
     else !decide (m.st<0)&&!decide (40<m.st)&&!decide (m.lo<wdsN m.ds.data.toList m.fl)&&!decide (40<m.lo)&&(allE m.code m.lo == 0))
def ifsB (nm:List UInt8):List (List UInt8)→List (List UInt8)→Bool
  | _,[]=>true
  | pre,p::r=>validL p&&!(p == nm)&&!(pre.contains p)&&ifsB nm (pre++[p]) r
theorem ifsB_at (nm:List UInt8) {l:List (List UInt8)} (k:Nat) (p:List UInt8) (h:l[k]?=some p):ifsB nm (l.take k) (l.drop k)=(validL p&&!(p == nm)&&!((l.take k).contains p)&&ifsB nm (l.take (k+1)) (l.drop (k+1))):=by
  obtain ⟨h1,h2⟩:=List.getElem?_eq_some_iff.1 h
  rw [List.drop_eq_getElem_cons h1,h2,ifsB,List.take_add_one,h];rfl
def CB (w:World) (b:Nat) (nm su:ByteArray) (vi:Value) (fl ld:Int) (vm:Value):Prop :=
  b<w.heap.size∧w.cell? ⟨b,0,none⟩=some (.string nm)∧w.cell? ⟨b,1,none⟩=some (.string su)∧w.cell? ⟨b,2,none⟩=some vi∧w.cell? ⟨b,3,none⟩=some (.int .i64 fl)∧w.cell? ⟨b,4,none⟩=some (.int .i64 ld)∧w.cell? ⟨b,5,none⟩=some vm
theorem CB.keep {w w':World} {b:Nat} {nm su:ByteArray} {vi:Value} {fl ld:Int} {vm:Value} (h:CB w b nm su vi fl ld vm) (hb:Below w.heap.size w w'):CB w' b nm su vi fl ld vm:=by
  obtain ⟨h,h0,h1,h2,h3,h4,h5⟩:=h
  exact ⟨Nat.lt_of_lt_of_le h hb.size,(hb.cell h).trans h0,(hb.cell h).trans h1,(hb.cell h).trans h2,(hb.cell h).trans h3,(hb.cell h).trans h4,(hb.cell h).trans h5⟩
def mthsB (iface:Bool) (all:List Mth):List Mth→Nat→Bool
  | [],_=>true
  | m::r,k=>mthB m iface&&(findM m.nm m.ds all 0 == (k:Int))&&mthsB iface all r (k+1)
theorem mthsB_at (iface:Bool) (all:List Mth) {l:List Mth} (k:Nat) (x:Mth) (h:l[k]?=some x):mthsB iface all (l.drop k) k=(mthB x iface&&(findM x.nm x.ds all 0 == (k:Int))&&mthsB iface all (l.drop (k+1)) (k+1)):=by
  obtain ⟨h1,h2⟩:=List.getElem?_eq_some_iff.1 h
  rw [List.drop_eq_getElem_cons h1,h2,mthsB]
def clsB (c:Cls):Bool :=
  validL c.nm.data.toList&&validL c.su.data.toList&&!(c.nm.toList == c.su.toList)&&!decide (20<(c.ifs.length:Int))&&!decide (40<(c.ms.length:Int))&&!decide (c.ld<0)&&!decide (9<c.ld)&&(chkC c.fl == 0) &&
    ifsB c.nm.data.toList [] c.ifs&&mthsB (hasI c.fl 512) c.ms c.ms 0
def clsE (c:Cls):Int:=if clsB c then 0 else 1
def MthOK (m:Mth):Prop:=m.nm.size≤maxLen∧m.ds.size≤maxLen∧∀ i∈m.code,InsOK i
end Go.Proofs.YtlohdfpinmdljaaGreatDoor
