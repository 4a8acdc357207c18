import Derived.Test.YtfjekhmnjfcbeaaGreatRows
import Derived.Test.YtfjekhmnjfcbeaaGreatFlagsPure
import Derived.Test.YtfjekhmnjfcbeaaGreatOwnX
import Derived.Test.YtfjekhmnjfcbeaaGreatRefDesc
import Derived.Test.YtfjekhmnjfcbeaaGreatShpS
import Derived.WalkKit
import Derived.WalkSpells
import Derived.WalkLawsBesides
import Derived.Lib.Walk
import Derived.Lib.PathFns
import Derived.Deep.LoopGhost
import Derived.Deep.RegionWith
import Derived.Deep.QuietTactic
import Derived.BigQuiet
import Derived.Deep.RegionHeld3
set_option maxRecDepth 100000
namespace Go.Proofs.YtfjekhmnjfcbeaaGreat
open Go.RowKit
theorem fret_bool {a b:Bool} (h:a=b):Ending.returned (.bool a)=.returned (.bool b):=by rw [h]
theorem fret_int {k:IntKind} {a b:Int} (h:a=b):Ending.returned (.int k a)=.returned (.int k b):=by rw [h]
def chkC (f:Int):Int:=if !onlyB f clsP then 1 else if hasI f 512&&(!hasI f 1024||hasI f 16||hasI f 32) then 1 else if hasI f 16&&hasI f 1024 then 1 else 0
def visN (f:Int):Nat:=(if hasI f 1 then 1 else 0)+(if hasI f 2 then 1 else 0)+(if hasI f 4 then 1 else 0)
def chkM (f:Int) (iface ini:Bool):Int:=if !onlyB f mthP then 1 else if decide (1<visN f) then 1 else if hasI f 1024&&(hasI f 2||hasI f 8||hasI f 16) then 1
  else if iface&&(hasI f 4||hasI f 16||decide (visN f=0)||ini) then 1 else if ini&&(hasI f 8||hasI f 16||hasI f 1024) then 1 else 0
structure Mth where
  nm:ByteArray
  ds:ByteArray
  fl:Int
  lo:Int
  st:Int
  code:List Ins
structure Cls where
  nm:ByteArray
  su:ByteArray
  ifs:List (List UInt8)
  fl:Int
  ld:Int
  ms:List Mth
def MthAt (w:World) (bk o:Nat) (m:Mth):Prop :=
  w.cell? ⟨bk,o,none⟩=some (.string m.nm)∧w.cell? ⟨bk,o+1,none⟩=some (.string m.ds)∧w.cell? ⟨bk,o+2,none⟩=some (.int .i64 m.fl)∧w.cell? ⟨bk,o+3,none⟩=some (.int .i64 m.lo)∧w.cell? ⟨bk,o+4,none⟩=some (.int .i64 m.st)∧∃ v,w.cell? ⟨bk,o+5,none⟩=some v∧IsInss w v m.code
theorem MthAt.keep {w w':World} {bk o:Nat} {m:Mth} (h:MthAt w bk o m) (hb:Below w.heap.size w w') (hlt:bk<w.heap.size):MthAt w' bk o m:=by
  obtain ⟨h0,h1,h2,h3,h4,v,h5,h6⟩:=h
  exact ⟨(hb.cell hlt).trans h0,(hb.cell hlt).trans h1,(hb.cell hlt).trans h2,(hb.cell hlt).trans h3,(hb.cell hlt).trans h4,v,(hb.cell hlt).trans h5,h6.keep hb⟩
def IsMths (w:World) (v:Value) (l:List Mth):Prop :=
  ∃ ao cap,v=.slice ao l.length cap∧l.length≤cap∧cap≤maxLen ∧
    (l≠[]→∃ bk o,ao=some ⟨bk,o,none⟩∧bk<w.heap.size∧∀ k m,l[k]?=some m→MthAt w bk (o+k * 6) m)
theorem IsMths.keep {w w':World} {v:Value} {l:List Mth} (h:IsMths w v l) (hb:Below w.heap.size w w'):IsMths w' v l:=by
  obtain ⟨ao,cap,rfl,h1,h2,h3⟩:=h
  refine ⟨ao,cap,rfl,h1,h2,fun hne=>?_⟩
  obtain ⟨bk,o,e,hlt,hc⟩:=h3 hne
  exact ⟨bk,o,e,Nat.lt_of_lt_of_le hlt hb.size,fun k i hk=>(hc k i hk).keep hb hlt⟩
def clsV (c:Cls) (vi vm:Value):Value:=.agg #[.string c.nm,.string c.su,vi,.int .i64 c.fl,.int .i64 c.ld,vm]
def findM (nm ds:ByteArray):List Mth→Nat→Int
  | [],_=>-1
  | m::r,k=>if (m.nm.toList == nm.toList)&&(m.ds.toList == ds.toList) then k else findM nm ds r (k+1)
theorem findM_at {l:List Mth} {nm ds:ByteArray} (k:Nat) (x:Mth) (h:l[k]?=some x):findM nm ds (l.drop k) k=if (x.nm.toList == nm.toList)&&(x.ds.toList == ds.toList) then (k:Int) else findM nm ds (l.drop (k+1)) (k+1):=by
  obtain ⟨h1,h2⟩:=List.getElem?_eq_some_iff.1 h
  rw [List.drop_eq_getElem_cons h1,h2,findM]
theorem pdD_len (l:List UInt8):(pdD l).1.length≤20:=by
  unfold pdD
  split
  · rename_i h
    unfold pdE at h
    split at h
    · exact absurd h (by decide)
    · split at h
      · exact absurd h (by decide)
      · rename_i d hd
        split at h
        · exact absurd h (by decide)
        · rename_i hg
          simp only [largeD,Bool.not_eq_true,Bool.or_eq_false_iff,decide_eq_false_iff_not] at hg
          rw [hd]
          have:=hg.1.1
          simp only [Option.getD_some]
          omega
  · simp
def wdsN (ds:List UInt8) (fl:Int):Int:=if pdE ds=0 then ((pdD ds).1.length:Int)+(if hasI fl 8 then 0 else 1) else 0
def wdsE (ds:List UInt8):Int:=if pdE ds=0 then 0 else 1
def mthB (m:Mth) (iface:Bool):Bool :=
  memberL m.nm.data.toList&&(chkM m.fl iface (m.nm.toList == [60,105,110,105,116,62]) == 0)&&(pdE m.ds.data.toList == 0)&&!((m.nm.toList == [60,105,110,105,116,62])&&!voidB (pdD m.ds.data.toList).2) &&
    (if hasI m.fl 1024 then (m.lo == 0) && (m.st == 0) && ((m.code.length : Int) == 0)
     else !decide (m.st<0)&&!decide (40<m.st)&&!decide (m.lo<wdsN m.ds.data.toList m.fl)&&!decide (40<m.lo)&&(allE m.code m.lo == 0))
def ifsB (nm:List UInt8):List (List UInt8)→List (List UInt8)→Bool
  | _,[]=>true
  | pre,p::r=>validL p&&!(p == nm)&&!(pre.contains p)&&ifsB nm (pre++[p]) r
theorem ifsB_at (nm:List UInt8) {l:List (List UInt8)} (k:Nat) (p:List UInt8) (h:l[k]?=some p):ifsB nm (l.take k) (l.drop k)=(validL p&&!(p == nm)&&!((l.take k).contains p)&&ifsB nm (l.take (k+1)) (l.drop (k+1))):=by
  obtain ⟨h1,h2⟩:=List.getElem?_eq_some_iff.1 h
  rw [List.drop_eq_getElem_cons h1,h2,ifsB,List.take_add_one,h];rfl
theorem below_drewN {B:Nat} {a w:World} (h:Below B a w) (n:Nat):Below B a (w.drewN n):=⟨h.os,h.tape,h.output,h.size,h.block⟩
def CB (w:World) (b:Nat) (nm su:ByteArray) (vi:Value) (fl ld:Int) (vm:Value):Prop :=
  b<w.heap.size∧w.cell? ⟨b,0,none⟩=some (.string nm)∧w.cell? ⟨b,1,none⟩=some (.string su)∧w.cell? ⟨b,2,none⟩=some vi∧w.cell? ⟨b,3,none⟩=some (.int .i64 fl)∧w.cell? ⟨b,4,none⟩=some (.int .i64 ld)∧w.cell? ⟨b,5,none⟩=some vm
theorem CB.keep {w w':World} {b:Nat} {nm su:ByteArray} {vi:Value} {fl ld:Int} {vm:Value} (h:CB w b nm su vi fl ld vm) (hb:Below w.heap.size w w'):CB w' b nm su vi fl ld vm:=by
  obtain ⟨h,h0,h1,h2,h3,h4,h5⟩:=h
  exact ⟨Nat.lt_of_lt_of_le h hb.size,(hb.cell h).trans h0,(hb.cell h).trans h1,(hb.cell h).trans h2,(hb.cell h).trans h3,(hb.cell h).trans h4,(hb.cell h).trans h5⟩
def mthsB (iface:Bool) (all:List Mth):List Mth→Nat→Bool
  | [],_=>true
  | m::r,k=>mthB m iface&&(findM m.nm m.ds all 0 == (k:Int))&&mthsB iface all r (k+1)
theorem mthsB_at (iface:Bool) (all:List Mth) {l:List Mth} (k:Nat) (x:Mth) (h:l[k]?=some x):mthsB iface all (l.drop k) k=(mthB x iface&&(findM x.nm x.ds all 0 == (k:Int))&&mthsB iface all (l.drop (k+1)) (k+1)):=by
  obtain ⟨h1,h2⟩:=List.getElem?_eq_some_iff.1 h
  rw [List.drop_eq_getElem_cons h1,h2,mthsB]
def clsB (c:Cls):Bool :=
  validL c.nm.data.toList&&validL c.su.data.toList&&!(c.nm.toList == c.su.toList)&&!decide (20<(c.ifs.length:Int))&&!decide (40<(c.ms.length:Int))&&!decide (c.ld<0)&&!decide (9<c.ld)&&(chkC c.fl == 0) &&
    ifsB c.nm.data.toList [] c.ifs&&mthsB (hasI c.fl 512) c.ms c.ms 0
def clsE (c:Cls):Int:=if clsB c then 0 else 1
def MthOK (m:Mth):Prop:=m.nm.size≤maxLen∧m.ds.size≤maxLen∧∀ i∈m.code,InsOK i
set_option maxHeartbeats 1000000 in
theorem within_any (n a b:Int) (w:World):Calls Tryz.prog 109 #[.int .i64 n,.int .i64 a,.int .i64 b] w fun e w'=>e=.returned (.bool (decide (a≤n)&&decide (n≤b)))∧w'=w:=by
  go_enter Tryz.func109,Tryz.ntmps109
  by_cases h1:a≤n
  · by_cases h2:n≤b
    · go_wp2
      go_ret
      exact ⟨ret_bool (by simp [h1,h2]),rfl⟩
    · go_wp2
      go_ret
      exact ⟨ret_bool (by simp;omega),rfl⟩
  · go_wp2
    go_ret
    exact ⟨ret_bool (by simp;omega),rfl⟩
set_option maxHeartbeats 1000000 in
theorem isM_any (xn xd nm ds:ByteArray) (xf xl xs:Int) (vc:Value) (b1 b2:Nat) (w:World) (g1:w.cell? ⟨b1,0,none⟩=some (.string nm)) (g2:w.cell? ⟨b2,0,none⟩=some (.string ds)) (l1:b1<w.heap.size) (l2:b2<w.heap.size) :
    Calls Tryz.prog 176 #[.agg #[.string xn,.string xd,.int .i64 xf,.int .i64 xl,.int .i64 xs,vc],.pointer (some ⟨b1,0,none⟩),.pointer (some ⟨b2,0,none⟩)] w fun e w'=>e=.returned (.bool ((xn.toList == nm.toList)&&(xd.toList == ds.toList)))∧Below w.heap.size w w':=by
  generalize hz:((xn.toList == nm.toList)&&(xd.toList == ds.toList))=z
  have HZ:Hid _:=hz
  clear hz
  cases q1:(xn.toList == nm.toList) with
  | false =>
    go_enter Tryz.func176,Tryz.ntmps176
    go_wp2
    go_ret
    exact ⟨ret_bool (by rw [← HZ.out,q1];rfl),(Below.refl _ _).alloc (Nat.le_refl _) _⟩
  | true =>
    cases q2:(xd.toList == ds.toList) with
    | false =>
      go_enter Tryz.func176,Tryz.ntmps176
      go_wp2
      go_ret
      exact ⟨ret_bool (by rw [← HZ.out,q1,q2];rfl),(Below.refl _ _).alloc (Nat.le_refl _) _⟩
    | true =>
      go_enter Tryz.func176,Tryz.ntmps176
      go_wp2
      go_ret
      exact ⟨ret_bool (by rw [← HZ.out,q1,q2];rfl),(Below.refl _ _).alloc (Nat.le_refl _) _⟩
set_option maxHeartbeats 4000000 in
theorem idxM_any (nm ds:ByteArray) (vm:Value) (ms:List Mth) (W:World) (b1 b2:Nat) (h:IsMths W vm ms) (g1:W.cell? ⟨b1,0,none⟩=some (.string nm)) (g2:W.cell? ⟨b2,0,none⟩=some (.string ds)) (l1:b1<W.heap.size) (l2:b2<W.heap.size) :
    Calls Tryz.prog 175 #[vm,.func (.func 176) #[] #[.pointer (some ⟨b1,0,none⟩),.pointer (some ⟨b2,0,none⟩)]] W fun e w'=>e=.returned (.int .i64 (findM nm ds ms 0))∧Below W.heap.size W w':=by
  obtain ⟨ao,cap,rfl,h1,h2,h3⟩:=h
  obtain ⟨N,hN⟩:∃ N,ms.length=N:=⟨_,rfl⟩
  unfold maxLen at h2
  rw [hN] at h1 ⊢
  have HN1:Hid (ms.length=N):=hN
  have HA:Hid _:=h3
  have G1:Hid _:=g1
  have G2:Hid _:=g2
  clear hN h3 g1 g2
  go_enter Tryz.func175,Tryz.ntmps175
  go_wp2
  go_loopw [8] (fun iv wr=>∃ i:Nat,iv=.int .i64 i∧i≤N∧Hid (Below W.heap.size W wr)∧Hid (findM nm ds (ms.drop i) i=findM nm ds ms 0)) (fun iv _=>N - (intOf iv).toNat)
  case atStart=>exact ⟨0,rfl,Nat.zero_le _,Below.refl _ _,rfl⟩
  case round =>
    obtain ⟨i,rfl,hi,hb,hs⟩:=hrel
    by_cases hlt:i<N
    · obtain ⟨bk,o,hao,hbk,hc⟩:=HA.out (by intro e;have:=HN1.out;rw [e] at this;simp at this;omega)
      obtain ⟨x,hx⟩:∃ x,ms[i]?=some x:=⟨_,List.getElem?_eq_getElem (by rw [HN1.out];exact hlt)⟩
      subst hao
      have hst:=findM_at (nm:=nm) (ds:=ds) i x hx
      rw [hs.out] at hst
      have hcx:=(hc i x hx).keep hb.out hbk
      obtain ⟨xn,xd,xf,xl,xs,xc⟩:=x
      obtain ⟨p0,p1,p2,p3,p4,vc,p5,hI⟩:=hcx
      obtain ⟨va,vcap,rfl,_,_,_⟩:=hI
      simp only at p0 p1 p2 p3 p4 p5 hst
      have k1:=(hb.out.cell l1).trans G1.out
      have k2:=(hb.out.cell l2).trans G2.out
      have HC:Hid (Calls Tryz.prog 176 #[.agg #[.string xn,.string xd,.int .i64 xf,.int .i64 xl,.int .i64 xs,.slice va xc.length vcap],.pointer (some ⟨b1,0,none⟩),.pointer (some ⟨b2,0,none⟩)] wr fun e w'=>e=.returned (.bool ((xn.toList == nm.toList)&&(xd.toList == ds.toList)))∧Below wr.heap.size wr w'):=isM_any xn xd nm ds xf xl xs (.slice va xc.length vcap) b1 b2 wr k1 k2 (Nat.lt_of_lt_of_le l1 hb.out.size) (Nat.lt_of_lt_of_le l2 hb.out.size)
      generalize ((xn.toList == nm.toList)&&(xd.toList == ds.toList))=q at *
      clear hc hs HA hx k1 k2
      cases q with
      | true =>
        have HZ:Hid (findM nm ds ms 0=(i:Int)):=by rw [Hid,hst];rfl
        clear hst
        go_wp2_with (go_at_call 176;refine (HC.out).mono ?_;rintro e w1 ⟨rfl,hb1⟩)
        go_ret
        exact ⟨ret_int HZ.out.symm,Below.step hb.out hb1⟩
      | false =>
        have HZ:Hid (findM nm ds (ms.drop (i+1)) (i+1)=findM nm ds ms 0):=by rw [Hid,hst];rfl
        clear hst
        go_wp2_with (go_at_call 176;refine (HC.out).mono ?_;rintro e w1 ⟨rfl,hb1⟩;have hb2:Hid (Below W.heap.size W w1):=Below.step hb.out hb1;clear hb1)
        go_roundw
        case rel=>exact ⟨i+1,by go_num,by omega,hb2,HZ⟩
        case measure=>simp [intOf];omega
    · have e:i=N:=by omega
      subst e
      have HZ:Hid (findM nm ds ms 0=-1):=by rw [Hid,← hs.out,List.drop_of_length_le (by rw [HN1.out];exact Nat.le_refl _)];rfl
      clear hs HA
      go_wp2
      go_ret
      exact ⟨ret_int HZ.out.symm,hb.out⟩
set_option maxHeartbeats 1000000 in
theorem find_any (cn cs:ByteArray) (vi:Value) (cf cl:Int) (vm:Value) (ms:List Mth) (nm ds:ByteArray) (W:World) (h:IsMths W vm ms) :
    Calls Tryz.prog 141 #[.agg #[.string cn,.string cs,vi,.int .i64 cf,.int .i64 cl,vm],.string nm,.string ds] W fun e w'=>e=.returned (.int .i64 (findM nm ds ms 0))∧Below W.heap.size W w':=by
  have H:Hid (IsMths W vm ms):=h
  have hB:Hid (∀ o1 o2 o3,Below W.heap.size W (((W.alloc o1).alloc o2).alloc o3)):=fun o1 o2 o3=>(((Below.refl _ _).alloc (Nat.le_refl _) _).alloc (by simp) _).alloc (by simp;omega) _
  obtain ⟨ao,cap,rfl,_,_,_⟩:=h
  go_enter Tryz.func141,Tryz.ntmps141
  go_wp2_with (go_at_call 175;(refine (idxM_any nm ds _ ms _ (W.heap.size+1) (W.heap.size+1+1) ?_ ?_ ?_ ?_ ?_).mono ?_;exact H.out.keep (hB.out _ _ _);simp [go_sem];simp [go_sem];simp [go_sem];simp [go_sem];rintro e w1 ⟨rfl,hb1⟩))
  go_ret
  exact ⟨rfl,Below.step (hB.out _ _ _) hb1⟩
def sameM (a b:Mth):Bool:=(a.nm.toList == b.nm.toList)&&(a.ds.toList == b.ds.toList)&&(a.fl == b.fl)&&(a.lo == b.lo)&&(a.st == b.st)&&sameL a.code b.code
set_option maxHeartbeats 4000000 in
theorem rSameMethod_any (a b:Mth) (va vb:Value) (w:World) (ha:IsInss w va a.code) (hb:IsInss w vb b.code) :
    Calls Tryz.prog 66 #[.agg #[.string a.nm,.string a.ds,.int .i64 a.fl,.int .i64 a.lo,.int .i64 a.st,va],.agg #[.string b.nm,.string b.ds,.int .i64 b.fl,.int .i64 b.lo,.int .i64 b.st,vb]] w fun e w'=>e=.returned (.bool (sameM a b))∧Below w.heap.size w w':=by
  have HS:Hid (∀ w',IsInss w' va a.code→IsInss w' vb b.code→_):=fun w' h1 h2=>rSameCode_any va vb a.code b.code w' h1 h2
  have HR:Hid (sameM a b=((a.nm.toList == b.nm.toList)&&(a.ds.toList == b.ds.toList)&&(a.fl == b.fl)&&(a.lo == b.lo)&&(a.st == b.st)&&sameL a.code b.code)):=rfl
  have HA:Hid (IsInss w va a.code):=ha
  have HB:Hid (IsInss w vb b.code):=hb
  obtain ⟨aa,ca,rfl,_,_,_⟩:=ha
  obtain ⟨ab,cb,rfl,_,_,_⟩:=hb
  generalize sameM a b=z at *
  generalize sameL a.code b.code=q6 at *
  obtain ⟨an,ad,af,al,at1,ac⟩:=a
  obtain ⟨bn,bd,bf,bl,bs,bc⟩:=b
  simp only at HS HR HA HB ⊢
  generalize h1:(an.toList == bn.toList)=q1 at *
  generalize h2:(ad.toList == bd.toList)=q2 at *
  generalize h3:(af == bf)=q3 at *
  generalize h4:(al == bl)=q4 at *
  generalize h5:(at1 == bs)=q5 at *
  by_cases hall:(q1&&q2&&q3&&q4&&q5)=true
  · simp only [Bool.and_eq_true] at hall
    obtain ⟨⟨⟨⟨rfl,rfl⟩,rfl⟩,rfl⟩,rfl⟩:=hall
    go_enter Tryz.func66,Tryz.ntmps66
    go_wp2_with (go_at_call 119;refine (HS.out _ (HA.out.keep (((Below.refl _ _).alloc (Nat.le_refl _) _).alloc (by simp) _)) (HB.out.keep (((Below.refl _ _).alloc (Nat.le_refl _) _).alloc (by simp) _))).mono ?_;rintro e w1 ⟨rfl,hb1⟩)
    go_ret
    exact ⟨ret_bool (by rw [HR.out];simp),Below.step (((Below.refl _ _).alloc (Nat.le_refl _) _).alloc (by simp) _) hb1⟩
  · have hz:Hid (z=false):=by rw [Hid,HR.out];cases q1 <;> cases q2 <;> cases q3 <;> cases q4 <;> cases q5 <;> simp_all
    clear HR HS HA HB
    cases q1
    all_goals (try cases q2)
    all_goals (try cases q3)
    all_goals (try cases q4)
    all_goals (try cases q5)
    all_goals first
      | exact absurd rfl hall
      | (clear hall;go_enter Tryz.func66,Tryz.ntmps66;go_wp2;go_ret;exact ⟨ret_bool hz.out.symm,((Below.refl _ _).alloc (Nat.le_refl _) _).alloc (by simp) _⟩)
set_option maxHeartbeats 1000000 in
theorem same_all (v1 v2:Value) (ps qs:List (List UInt8)) (w:World) (h1:IsStrs w v1 ps) (h2:IsStrs w v2 qs) :
    Calls Tryz.prog 65 #[v1,v2] w fun e w'=>e=.returned (.bool (decide (ps=qs)))∧Below w.heap.size w w':=by
  by_cases n1:ps=[]
  · by_cases n2:qs=[]
    · subst n1 n2
      obtain ⟨a1,c1,rfl,_,_,_⟩:=h1
      obtain ⟨a2,c2,rfl,_,_,_⟩:=h2
      simp only [List.length_nil]
      go_enter Tryz.func65,Tryz.ntmps65
      go_wp2
      go_loopw [5] (fun iv wr=>iv=.int .i64 0∧wr=w) (fun _ _=>0)
      case atStart=>exact ⟨rfl,rfl⟩
      case round =>
        obtain ⟨rfl,rfl⟩:=hrel
        go_wp2
        go_ret
        exact ⟨ret_bool (by simp),Below.refl _ _⟩
    · subst n1
      obtain ⟨a1,c1,rfl,_,_,_⟩:=h1
      obtain ⟨a2,c2,rfl,_,_,_⟩:=h2
      simp only [List.length_nil]
      have hl:0<qs.length:=List.length_pos_iff.2 n2
      have hne:(((0:Nat):Int) != (qs.length:Int))=true:=by rw [bne_iff_ne];omega
      have hd:decide (([]:List (List UInt8))=qs)=false:=by rw [decide_eq_false_iff_not];exact fun e=>n2 e.symm
      rw [hd]
      generalize qs.length=K at *
      go_enter Tryz.func65,Tryz.ntmps65
      go_wp2
      go_ret
      exact ⟨rfl,Below.refl _ _⟩
  · by_cases n2:qs=[]
    · subst n2
      obtain ⟨a1,c1,rfl,_,_,_⟩:=h1
      obtain ⟨a2,c2,rfl,_,_,_⟩:=h2
      simp only [List.length_nil]
      have hl:0<ps.length:=List.length_pos_iff.2 n1
      have hne:((ps.length:Int) != ((0:Nat):Int))=true:=by rw [bne_iff_ne];omega
      have hd:decide (ps=([]:List (List UInt8)))=false:=by rw [decide_eq_false_iff_not];exact n1
      rw [hd]
      generalize ps.length=K at *
      go_enter Tryz.func65,Tryz.ntmps65
      go_wp2
      go_ret
      exact ⟨rfl,Below.refl _ _⟩
    · exact (same_any v1 v2 ps qs w h1 h2 n1 n2).mono fun e w' ⟨he,n,hw⟩=>⟨he,by rw [hw];exact below_drewN (Below.refl _ _) n⟩
theorem sameI_refl (i:Ins):sameI i i=true:=by simp [sameI,sameRefB]
theorem sameL_refl (l:List Ins):sameL l l=true:=by
  induction l with
  | nil=>rfl
  | cons x l ih=>rw [sameL,sameI_refl,ih];rfl
theorem sameM_refl (m:Mth):sameM m m=true:=by simp [sameM,sameL_refl]
set_option maxHeartbeats 4000000 in
theorem rSame_eq (c:Cls) (vi vm ui um:Value) (W:World) (hi:IsStrs W vi c.ifs) (hm:IsMths W vm c.ms) (ki:IsStrs W ui c.ifs) (km:IsMths W um c.ms) :
    Calls Tryz.prog 16 #[clsV c vi vm,clsV c ui um] W fun e w'=>e=.returned (.bool true)∧Below W.heap.size W w':=by
  have HS:Hid (∀ w',Below W.heap.size W w'→Calls Tryz.prog 65 #[vi,ui] w' fun e w''=>e=.returned (.bool true)∧Below w'.heap.size w' w''):=fun w' h=>by
    have:=same_all vi ui c.ifs c.ifs w' (hi.keep h) (ki.keep h)
    rw [decide_eq_true rfl] at this
    exact this
  have HM:Hid (∀ (m:Mth) (va vb:Value) (w':World),Below W.heap.size W w'→IsInss W va m.code→IsInss W vb m.code→Calls Tryz.prog 66 #[.agg #[.string m.nm,.string m.ds,.int .i64 m.fl,.int .i64 m.lo,.int .i64 m.st,va],.agg #[.string m.nm,.string m.ds,.int .i64 m.fl,.int .i64 m.lo,.int .i64 m.st,vb]] w' fun e w''=>e=.returned (.bool true)∧Below w'.heap.size w' w''):=fun m va vb w' h h1 h2=>by
    have:=rSameMethod_any m m va vb w' (h1.keep h) (h2.keep h)
    rw [sameM_refl] at this
    exact this
  obtain ⟨ai,capi,rfl,_,_,_⟩:=hi
  obtain ⟨am,capm,rfl,m1,m2,m3⟩:=hm
  obtain ⟨bi,copi,rfl,_,_,_⟩:=ki
  obtain ⟨bm,copm,rfl,n1,n2,n3⟩:=km
  have HMA:Hid _:=m3
  have HNA:Hid _:=n3
  unfold maxLen at m2 n2
  clear m3 n3
  obtain ⟨nm,su,ifs,fl,ld,ms⟩:=c
  simp only [clsV] at *
  obtain ⟨M,hM⟩:∃ M,ms.length=M:=⟨_,rfl⟩
  rw [hM] at m1 n1 ⊢
  have HL:Hid (ms.length=M):=hM
  clear hM
  generalize ifs.length=K at *
  have k1:(fl != fl)=false:=by simp
  have k2:(ld != ld)=false:=by simp
  have k3:(nm.toList == nm.toList)=true:=by simp
  have k4:(su.toList == su.toList)=true:=by simp
  have k5:((M:Int) != (M:Int))=false:=by simp
  obtain ⟨Wc,hWc⟩:∃ x,x=(W.alloc (.cells #[.string nm,.string su,.slice ai K capi,.int .i64 fl,.int .i64 ld,.slice am M capm] 26)).alloc (.cells #[.string nm,.string su,.slice bi K copi,.int .i64 fl,.int .i64 ld,.slice bm M copm] 26):=⟨_,rfl⟩
  have HWc:Hid (Below W.heap.size W Wc):=by rw [hWc];exact ((Below.refl _ _).alloc (Nat.le_refl _) _).alloc (by simp) _
  have HCc:Hid (CB Wc W.heap.size nm su (.slice ai K capi) fl ld (.slice am M capm)):=by rw [hWc];exact ⟨by simp;omega,by simp [go_sem],by simp [go_sem],by simp [go_sem],by simp [go_sem],by simp [go_sem],by simp [go_sem]⟩
  have HCd:Hid (CB Wc (W.heap.size+1) nm su (.slice bi K copi) fl ld (.slice bm M copm)):=by rw [hWc];exact ⟨by simp,by simp [go_sem],by simp [go_sem],by simp [go_sem],by simp [go_sem],by simp [go_sem],by simp [go_sem]⟩
  have HWE:Hid (Wc=(W.alloc (.cells #[.string nm,.string su,.slice ai K capi,.int .i64 fl,.int .i64 ld,.slice am M capm] 26)).alloc (.cells #[.string nm,.string su,.slice bi K copi,.int .i64 fl,.int .i64 ld,.slice bm M copm] 26)):=hWc
  clear hWc
  go_enter Tryz.func16,Tryz.ntmps16
  go_wp2_with (go_at_call 65;rw [← HWE.out];refine (HS.out _ HWc.out).mono ?_;rintro e w1 ⟨rfl,hb1⟩;have B1:Hid (Below Wc.heap.size Wc w1):=hb1;obtain ⟨g9,g0,g1,g2,g3,g4,g5⟩:=HCc.out.keep hb1;obtain ⟨f9,f0,f1,f2,f3,f4,f5⟩:=HCd.out.keep hb1;clear hb1 HWE HS)
  clear g0 g1 g2 g3 g4 g5 g9 f0 f1 f2 f3 f4 f5 f9
  go_loopw [5] (fun iv wr=>∃ k:Nat,iv=.int .i64 k∧k≤M∧Hid (Below Wc.heap.size Wc wr)) (fun iv _=>M - (intOf iv).toNat)
  case atStart=>exact ⟨0,rfl,Nat.zero_le _,B1⟩
  case round =>
    obtain ⟨k,rfl,hk,hb⟩:=hrel
    clear B1
    obtain ⟨g9,g0,g1,g2,g3,g4,g5⟩:=HCc.out.keep hb.out
    obtain ⟨f9,f0,f1,f2,f3,f4,f5⟩:=HCd.out.keep hb.out
    by_cases hlt:k<M
    · obtain ⟨bk,o,hao,hbk,hc⟩:=HMA.out (by intro e;have:=HL.out;rw [e] at this;simp at this;omega)
      obtain ⟨dk,q,hdo,hdk,hd⟩:=HNA.out (by intro e;have:=HL.out;rw [e] at this;simp at this;omega)
      obtain ⟨x,hx⟩:∃ x,ms[k]?=some x:=⟨_,List.getElem?_eq_getElem (by rw [HL.out];exact hlt)⟩
      subst hao hdo
      have hcx:=hc k x hx
      have hdx:=hd k x hx
      have HM2:=HM.out x
      obtain ⟨xn,xd,xf,xl,xs,xc⟩:=x
      obtain ⟨p0,p1,p2,p3,p4,vc,p5,hI⟩:=hcx
      obtain ⟨r0,r1,r2,r3,r4,uc,r5,hJ⟩:=hdx
      simp only at p0 p1 p2 p3 p4 p5 hI r0 r1 r2 r3 r4 r5 hJ HM2
      have HM3:Hid (∀ w',Below W.heap.size W w'→_):=fun w' h=>HM2 vc uc w' h hI hJ
      obtain ⟨va,vcap,rfl,v1,v2,_⟩:=hI
      obtain ⟨ua,ucap,rfl,u1,u2,_⟩:=hJ
      have keepc:∀ (bk j:Nat) (v:Value),bk<W.heap.size→W.cell? ⟨bk,j,none⟩=some v→wr.cell? ⟨bk,j,none⟩=some v:=fun bk j v hbk h=>(hb.out.cell (p:=⟨bk,j,none⟩) (Nat.lt_of_lt_of_le hbk HWc.out.size)).trans ((HWc.out.cell (p:=⟨bk,j,none⟩) hbk).trans h)
      replace p0:=keepc bk _ _ hbk p0
      replace p1:=keepc bk _ _ hbk p1
      replace p2:=keepc bk _ _ hbk p2
      replace p3:=keepc bk _ _ hbk p3
      replace p4:=keepc bk _ _ hbk p4
      replace p5:=keepc bk _ _ hbk p5
      replace r0:=keepc dk _ _ hdk r0
      replace r1:=keepc dk _ _ hdk r1
      replace r2:=keepc dk _ _ hdk r2
      replace r3:=keepc dk _ _ hdk r3
      replace r4:=keepc dk _ _ hdk r4
      replace r5:=keepc dk _ _ hdk r5
      generalize xc.length=XL at *
      have hbk2:bk<wr.heap.size:=Nat.lt_of_lt_of_le hbk (Nat.le_trans HWc.out.size hb.out.size)
      have hdk2:dk<wr.heap.size:=Nat.lt_of_lt_of_le hdk (Nat.le_trans HWc.out.size hb.out.size)
      clear keepc hc hd hx HMA HNA HM HM2
      go_wp2
      go_region_held3 (fun w'=>w'.cell? ⟨W.heap.size,5,none⟩=some (.slice (some ⟨bk,o,none⟩) M capm)∧w'.cell? ⟨W.heap.size+1,5,none⟩=some (.slice (some ⟨dk,q,none⟩) M copm)∧w'.cell? ⟨bk,o+k * 6,none⟩=some (.string xn)∧w'.cell? ⟨bk,o+k * 6+1,none⟩=some (.string xd)∧w'.cell? ⟨bk,o+k * 6+2,none⟩=some (.int .i64 xf)∧w'.cell? ⟨bk,o+k * 6+3,none⟩=some (.int .i64 xl)∧w'.cell? ⟨bk,o+k * 6+4,none⟩=some (.int .i64 xs)∧w'.cell? ⟨bk,o+k * 6+5,none⟩=some (.slice va XL vcap)∧w'.cell? ⟨dk,q+k * 6,none⟩=some (.string xn)∧w'.cell? ⟨dk,q+k * 6+1,none⟩=some (.string xd)∧w'.cell? ⟨dk,q+k * 6+2,none⟩=some (.int .i64 xf)∧w'.cell? ⟨dk,q+k * 6+3,none⟩=some (.int .i64 xl)∧w'.cell? ⟨dk,q+k * 6+4,none⟩=some (.int .i64 xs)∧w'.cell? ⟨dk,q+k * 6+5,none⟩=some (.slice ua XL ucap)) (go_keep)
        (first|(go_at_call 66;refine (HM3.out _ (Below.step HWc.out hb.out.drew)).mono ?_;rintro e w3 ⟨rfl,hb3⟩;have B3:Hid (Below Wc.heap.size Wc w3):=Below.step hb.out.drew hb3;have kp:∀ (bb j:Nat) (v:Value),bb<wr.heap.size→wr.cell? ⟨bb,j,none⟩=some v→w3.cell? ⟨bb,j,none⟩=some v:=fun bb j v hl h=>(hb3.cell (p:=⟨bb,j,none⟩) hl).trans h;replace g5:=kp _ _ _ g9 g5;replace f5:=kp _ _ _ f9 f5;replace p0:=kp _ _ _ hbk2 p0;replace p1:=kp _ _ _ hbk2 p1;replace p2:=kp _ _ _ hbk2 p2;replace p3:=kp _ _ _ hbk2 p3;replace p4:=kp _ _ _ hbk2 p4;replace p5:=kp _ _ _ hbk2 p5;replace r0:=kp _ _ _ hdk2 r0;replace r1:=kp _ _ _ hdk2 r1;replace r2:=kp _ _ _ hdk2 r2;replace r3:=kp _ _ _ hdk2 r3;replace r4:=kp _ _ _ hdk2 r4;replace r5:=kp _ _ _ hdk2 r5;clear kp hb3 HM3))
      go_wp2
      go_roundw
      case rel=>exact ⟨k+1,by go_num,by omega,B3⟩
      case measure=>simp [intOf];omega
    · have e:k=M:=by omega
      subst e
      clear HMA HNA HM
      go_wp2
      go_ret
      exact ⟨rfl,Below.step HWc.out hb.out⟩
end Go.Proofs.YtfjekhmnjfcbeaaGreat
