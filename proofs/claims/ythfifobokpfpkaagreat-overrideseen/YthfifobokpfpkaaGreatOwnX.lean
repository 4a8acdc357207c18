import Derived.Test.YthfifobokpfpkaaGreatRefDesc
import Derived.Test.YthfifobokpfpkaaGreatRows
import Derived.Test.YthfifobokpfpkaaGreatOvQ
import Derived.Lib.ItoaNum
import Derived.Lib.ItoaLen
import Derived.Laws.IdiomStrings
import Derived.Deep.RegionWith
import Derived.WalkKit
import Derived.WalkSpells
import Derived.WalkLawsBesides
import Derived.Lib.Walk
import Derived.Lib.PathFns
import Derived.Deep.LoopGhost
import Derived.Deep.QuietTactic
import Derived.BigQuiet
set_option maxRecDepth 100000
namespace Go.Proofs.YthfifobokpfpkaaGreat
open Go.RowKit
def opdTab:List Int:=[-1,1,2,2,2,2,0,0,0,0,0,3,3,3,3,3,3,3,3,0,0,0,4,6,7,0,0,0,0,0,5,5,8,8,8,8,0,0,0,0,0]
def opdI (op:Int):Int:=if op<1∨40<op then -1 else opdTab.getD op.toNat 0
def noRefB (b:Bool) (c n d:ByteArray):Bool:=!b&&c.toList.isEmpty&&n.toList.isEmpty&&d.toList.isEmpty
def sameRefB (b1:Bool) (c1 n1 d1:ByteArray) (b2:Bool) (c2 n2 d2:ByteArray):Bool:=(b1 == b2)&&(c1.toList == c2.toList)&&(n1.toList == n2.toList)&&(d1.toList == d2.toList)
def rckB (c n d:List UInt8):Bool:=(prfE c == 0)&&memberL n&&(pdE d == 0)
def rckE (c n d:List UInt8):Int:=if rckB c n d then 0 else 1
theorem opd_cases (op:Int):opdI op=-1∨opdI op=0∨opdI op=1∨opdI op=2∨opdI op=3∨opdI op=4∨opdI op=5∨opdI op=6∨opdI op=7∨opdI op=8:=by
  by_cases h:op<1∨40<op
  · left;rw [opdI,if_pos h]
  · have hx:∀ k:Fin 41,(opdTab.getD k.1 0=-1∨opdTab.getD k.1 0=0∨opdTab.getD k.1 0=1∨opdTab.getD k.1 0=2∨opdTab.getD k.1 0=3∨opdTab.getD k.1 0=4∨opdTab.getD k.1 0=5∨opdTab.getD k.1 0=6∨opdTab.getD k.1 0=7∨opdTab.getD k.1 0=8):=by decide
    have:=hx ⟨op.toNat,by omega⟩
    rw [opdI,if_neg h]
    exact this
def insB (k n:Int) (te:Bool) (t:List UInt8) (z r:Bool):Bool :=
  if k=0 then z&&(n == 0)&&te
  else if k=1 then z&&te&&decide (-2147483648≤n)&&decide (n≤2147483647)
  else if k=2 then z&&te&&decide (0≤n)&&decide (n<40)
  else if k=3 then z&&te&&decide (0≤n)&&decide (n<200)
  else if k=4 then z&&(n == 0)&&validL t
  else if k=5 then z&&(n == 0)&&(prfE t == 0)
  else if k=6 then z&&(n == 0)&&(parE t == 0)&&decide ((parT t).1<255)
  else if k=7 then z&&(prfE t == 0)&&decide (1≤n)&&decide (n≤(prfT t).1)
  else if k=8 then (n == 0)&&te&&r
  else false
def ickE (op n:Int) (t:ByteArray) (b:Bool) (c m d:ByteArray):Int:=if insB (opdI op) n t.toList.isEmpty t.data.toList (noRefB b c m d) (rckB c.data.toList m.data.toList d.data.toList) then 0 else 1
structure Ins where
  op:Int
  n:Int
  t:ByteArray
  b:Bool
  c:ByteArray
  m:ByteArray
  d:ByteArray
def insC (i:Ins):List Value:=[.int .i64 i.op,.int .i64 i.n,.string i.t,.bool i.b,.string i.c,.string i.m,.string i.d]
def insV (i:Ins):Value:=.agg (insC i).toArray
def flatI (l:List Ins):List Value:=l.flatMap insC
theorem flatI_length (l:List Ins):(flatI l).length=l.length * 7:=by
  induction l with
  | nil=>rfl
  | cons t ts ih=>simp only [flatI,List.flatMap_cons,List.length_append,insC] at *;rw [ih];simp;omega
theorem flatI_at (l:List Ins) (k:Nat) (i:Ins) (h:l[k]?=some i):(flatI l)[k * 7]?=some (.int .i64 i.op)∧(flatI l)[k * 7+1]?=some (.int .i64 i.n)∧(flatI l)[k * 7+2]?=some (.string i.t)∧(flatI l)[k * 7+3]?=some (.bool i.b)∧(flatI l)[k * 7+4]?=some (.string i.c)∧(flatI l)[k * 7+5]?=some (.string i.m)∧(flatI l)[k * 7+6]?=some (.string i.d):=by
  induction l generalizing k with
  | nil=>simp at h
  | cons u ts ih =>
    have e:flatI (u::ts)=.int .i64 u.op::.int .i64 u.n::.string u.t::.bool u.b::.string u.c::.string u.m::.string u.d::flatI ts:=by simp [flatI,insC]
    rw [e]
    cases k with
    | zero=>simp at h;subst h;exact ⟨rfl,rfl,rfl,rfl,rfl,rfl,rfl⟩
    | succ k =>
      simp at h
      have:=ih k h
      rw [show (k+1) * 7=k * 7+1+1+1+1+1+1+1 by omega,show k * 7+1+1+1+1+1+1+1+1=k * 7+1+1+1+1+1+1+1+1 by rfl]
      simp only [show ∀ j,k * 7+1+1+1+1+1+1+1+j=k * 7+j+1+1+1+1+1+1+1 from fun j=>by omega,List.getElem?_cons_succ]
      exact this
def InsAt (w:World) (bk o:Nat) (i:Ins):Prop :=
  w.cell? ⟨bk,o,none⟩=some (.int .i64 i.op)∧w.cell? ⟨bk,o+1,none⟩=some (.int .i64 i.n)∧w.cell? ⟨bk,o+2,none⟩=some (.string i.t)∧w.cell? ⟨bk,o+3,none⟩=some (.bool i.b)∧w.cell? ⟨bk,o+4,none⟩=some (.string i.c)∧w.cell? ⟨bk,o+5,none⟩=some (.string i.m)∧w.cell? ⟨bk,o+6,none⟩=some (.string i.d)
theorem InsAt.keep {w w':World} {N bk o:Nat} {i:Ins} (h:InsAt w bk o i) (hb:Below N w w') (hlt:bk<N):InsAt w' bk o i :=
  ⟨(hb.cell hlt).trans h.1,(hb.cell hlt).trans h.2.1,(hb.cell hlt).trans h.2.2.1,(hb.cell hlt).trans h.2.2.2.1,(hb.cell hlt).trans h.2.2.2.2.1,(hb.cell hlt).trans h.2.2.2.2.2.1,(hb.cell hlt).trans h.2.2.2.2.2.2⟩
def IsInss (w:World) (v:Value) (l:List Ins):Prop :=
  ∃ ao cap,v=.slice ao l.length cap∧l.length≤cap∧cap≤maxLen ∧
    (l≠[]→∃ bk o,ao=some ⟨bk,o,none⟩∧bk<w.heap.size∧∀ k i,l[k]?=some i→InsAt w bk (o+k * 7) i)
theorem IsInss.keep {w w':World} {v:Value} {l:List Ins} (h:IsInss w v l) (hb:Below w.heap.size w w'):IsInss w' v l:=by
  obtain ⟨ao,cap,rfl,h1,h2,h3⟩:=h
  refine ⟨ao,cap,rfl,h1,h2,fun hne=>?_⟩
  obtain ⟨bk,o,e,hlt,hc⟩:=h3 hne
  exact ⟨bk,o,e,Nat.lt_of_lt_of_le hlt hb.size,fun k i hk=>(hc k i hk).keep hb hlt⟩
def sameI (a b:Ins):Bool:=(a.op == b.op)&&(a.n == b.n)&&(a.t.toList == b.t.toList)&&sameRefB a.b a.c a.m a.d b.b b.c b.m b.d
def ickI (i:Ins):Int:=ickE i.op i.n i.t i.b i.c i.m i.d
def badI (locals len:Int) (i:Ins):Bool:=(ickI i != 0)||((opdI i.op == 2)&&decide (locals≤i.n))||((opdI i.op == 3)&&decide (len≤i.n))
def allE (l:List Ins) (locals:Int):Int:=if l.length<1∨200<l.length then 1 else if l.any (badI locals l.length) then 1 else 0
def InsOK (i:Ins):Prop:=i.t.size≤maxLen∧i.c.size≤maxLen∧i.m.size≤maxLen∧i.d.size≤maxLen
theorem any_at {l:List Ins} {p:Ins→Bool} (k:Nat) (x:Ins) (h:l[k]?=some x):(l.drop k).any p=(p x||(l.drop (k+1)).any p):=by
  obtain ⟨h1,h2⟩:=List.getElem?_eq_some_iff.1 h
  rw [List.drop_eq_getElem_cons h1,h2,List.any_cons]
theorem ick_01 (op n:Int) (t:ByteArray) (b:Bool) (c m d:ByteArray):ickE op n t b c m d=0∨ickE op n t b c m d=1:=by
  unfold ickE;split <;> simp
theorem fret_bool {a b:Bool} (h:a=b):Ending.returned (.bool a)=.returned (.bool b):=by rw [h]
theorem fret_int {k:IntKind} {a b:Int} (h:a=b):Ending.returned (.int k a)=.returned (.int k b):=by rw [h]
def chkC (f:Int):Int:=if !onlyB f clsP then 1 else if hasI f 512&&(!hasI f 1024||hasI f 16||hasI f 32) then 1 else if hasI f 16&&hasI f 1024 then 1 else 0
def visN (f:Int):Nat:=(if hasI f 1 then 1 else 0)+(if hasI f 2 then 1 else 0)+(if hasI f 4 then 1 else 0)
def chkM (f:Int) (iface ini:Bool):Int:=if !onlyB f mthP then 1 else if decide (1<visN f) then 1 else if hasI f 1024&&(hasI f 2||hasI f 8||hasI f 16) then 1
  else if iface&&(hasI f 4||hasI f 16||decide (visN f=0)||ini) then 1 else if ini&&(hasI f 8||hasI f 16||hasI f 1024) then 1 else 0
def openI (f:Int):Int:=if hasI f 1 then 1 else if hasI f 4 then 4 else if hasI f 2 then 2 else 0
structure Mth where
  nm:ByteArray
  ds:ByteArray
  fl:Int
  lo:Int
  st:Int
  code:List Ins
structure Cls where
  nm:ByteArray
  su:ByteArray
  ifs:List (List UInt8)
  fl:Int
  ld:Int
  ms:List Mth
def MthAt (w:World) (bk o:Nat) (m:Mth):Prop :=
  w.cell? ⟨bk,o,none⟩=some (.string m.nm)∧w.cell? ⟨bk,o+1,none⟩=some (.string m.ds)∧w.cell? ⟨bk,o+2,none⟩=some (.int .i64 m.fl)∧w.cell? ⟨bk,o+3,none⟩=some (.int .i64 m.lo)∧w.cell? ⟨bk,o+4,none⟩=some (.int .i64 m.st)∧∃ v,w.cell? ⟨bk,o+5,none⟩=some v∧IsInss w v m.code
theorem MthAt.keep {w w':World} {bk o:Nat} {m:Mth} (h:MthAt w bk o m) (hb:Below w.heap.size w w') (hlt:bk<w.heap.size):MthAt w' bk o m:=by
  obtain ⟨h0,h1,h2,h3,h4,v,h5,h6⟩:=h
  exact ⟨(hb.cell hlt).trans h0,(hb.cell hlt).trans h1,(hb.cell hlt).trans h2,(hb.cell hlt).trans h3,(hb.cell hlt).trans h4,v,(hb.cell hlt).trans h5,h6.keep hb⟩
def IsMths (w:World) (v:Value) (l:List Mth):Prop :=
  ∃ ao cap,v=.slice ao l.length cap∧l.length≤cap∧cap≤maxLen ∧
    (l≠[]→∃ bk o,ao=some ⟨bk,o,none⟩∧bk<w.heap.size∧∀ k m,l[k]?=some m→MthAt w bk (o+k * 6) m)
theorem IsMths.keep {w w':World} {v:Value} {l:List Mth} (h:IsMths w v l) (hb:Below w.heap.size w w'):IsMths w' v l:=by
  obtain ⟨ao,cap,rfl,h1,h2,h3⟩:=h
  refine ⟨ao,cap,rfl,h1,h2,fun hne=>?_⟩
  obtain ⟨bk,o,e,hlt,hc⟩:=h3 hne
  exact ⟨bk,o,e,Nat.lt_of_lt_of_le hlt hb.size,fun k i hk=>(hc k i hk).keep hb hlt⟩
def clsV (c:Cls) (vi vm:Value):Value:=.agg #[.string c.nm,.string c.su,vi,.int .i64 c.fl,.int .i64 c.ld,vm]
def findM (nm ds:ByteArray):List Mth→Nat→Int
  | [],_=>-1
  | m::r,k=>if (m.nm.toList == nm.toList)&&(m.ds.toList == ds.toList) then k else findM nm ds r (k+1)
theorem findM_at {l:List Mth} {nm ds:ByteArray} (k:Nat) (x:Mth) (h:l[k]?=some x):findM nm ds (l.drop k) k=if (x.nm.toList == nm.toList)&&(x.ds.toList == ds.toList) then (k:Int) else findM nm ds (l.drop (k+1)) (k+1):=by
  obtain ⟨h1,h2⟩:=List.getElem?_eq_some_iff.1 h
  rw [List.drop_eq_getElem_cons h1,h2,findM]
theorem pdD_len (l:List UInt8):(pdD l).1.length≤20:=by
  unfold pdD
  split
  · rename_i h
    unfold pdE at h
    split at h
    · exact absurd h (by decide)
    · split at h
      · exact absurd h (by decide)
      · rename_i d hd
        split at h
        · exact absurd h (by decide)
        · rename_i hg
          simp only [largeD,Bool.not_eq_true,Bool.or_eq_false_iff,decide_eq_false_iff_not] at hg
          rw [hd]
          have:=hg.1.1
          simp only [Option.getD_some]
          omega
  · simp
def wdsN (ds:List UInt8) (fl:Int):Int:=if pdE ds=0 then ((pdD ds).1.length:Int)+(if hasI fl 8 then 0 else 1) else 0
def wdsE (ds:List UInt8):Int:=if pdE ds=0 then 0 else 1
def mthB (m:Mth) (iface:Bool):Bool :=
  memberL m.nm.data.toList&&(chkM m.fl iface (m.nm.toList == [60,105,110,105,116,62]) == 0)&&(pdE m.ds.data.toList == 0)&&!((m.nm.toList == [60,105,110,105,116,62])&&!voidB (pdD m.ds.data.toList).2) &&
    (if hasI m.fl 1024 then (m.lo == 0) && (m.st == 0) && ((m.code.length : Int) == 0)
     else !decide (m.st<0)&&!decide (40<m.st)&&!decide (m.lo<wdsN m.ds.data.toList m.fl)&&!decide (40<m.lo)&&(allE m.code m.lo == 0))
def ifsB (nm:List UInt8):List (List UInt8)→List (List UInt8)→Bool
  | _,[]=>true
  | pre,p::r=>validL p&&!(p == nm)&&!(pre.contains p)&&ifsB nm (pre++[p]) r
theorem ifsB_at (nm:List UInt8) {l:List (List UInt8)} (k:Nat) (p:List UInt8) (h:l[k]?=some p):ifsB nm (l.take k) (l.drop k)=(validL p&&!(p == nm)&&!((l.take k).contains p)&&ifsB nm (l.take (k+1)) (l.drop (k+1))):=by
  obtain ⟨h1,h2⟩:=List.getElem?_eq_some_iff.1 h
  rw [List.drop_eq_getElem_cons h1,h2,ifsB,List.take_add_one,h];rfl
def CB (w:World) (b:Nat) (nm su:ByteArray) (vi:Value) (fl ld:Int) (vm:Value):Prop :=
  b<w.heap.size∧w.cell? ⟨b,0,none⟩=some (.string nm)∧w.cell? ⟨b,1,none⟩=some (.string su)∧w.cell? ⟨b,2,none⟩=some vi∧w.cell? ⟨b,3,none⟩=some (.int .i64 fl)∧w.cell? ⟨b,4,none⟩=some (.int .i64 ld)∧w.cell? ⟨b,5,none⟩=some vm
theorem CB.keep {w w':World} {b:Nat} {nm su:ByteArray} {vi:Value} {fl ld:Int} {vm:Value} (h:CB w b nm su vi fl ld vm) (hb:Below w.heap.size w w'):CB w' b nm su vi fl ld vm:=by
  obtain ⟨h,h0,h1,h2,h3,h4,h5⟩:=h
  exact ⟨Nat.lt_of_lt_of_le h hb.size,(hb.cell h).trans h0,(hb.cell h).trans h1,(hb.cell h).trans h2,(hb.cell h).trans h3,(hb.cell h).trans h4,(hb.cell h).trans h5⟩
def mthsB (iface:Bool) (all:List Mth):List Mth→Nat→Bool
  | [],_=>true
  | m::r,k=>mthB m iface&&(findM m.nm m.ds all 0 == (k:Int))&&mthsB iface all r (k+1)
theorem mthsB_at (iface:Bool) (all:List Mth) {l:List Mth} (k:Nat) (x:Mth) (h:l[k]?=some x):mthsB iface all (l.drop k) k=(mthB x iface&&(findM x.nm x.ds all 0 == (k:Int))&&mthsB iface all (l.drop (k+1)) (k+1)):=by
  obtain ⟨h1,h2⟩:=List.getElem?_eq_some_iff.1 h
  rw [List.drop_eq_getElem_cons h1,h2,mthsB]
def clsB (c:Cls):Bool :=
  validL c.nm.data.toList&&validL c.su.data.toList&&!(c.nm.toList == c.su.toList)&&!decide (20<(c.ifs.length:Int))&&!decide (40<(c.ms.length:Int))&&!decide (c.ld<0)&&!decide (9<c.ld)&&(chkC c.fl == 0) &&
    ifsB c.nm.data.toList [] c.ifs&&mthsB (hasI c.fl 512) c.ms c.ms 0
def clsE (c:Cls):Int:=if clsB c then 0 else 1
def MthOK (m:Mth):Prop:=m.nm.size≤maxLen∧m.ds.size≤maxLen∧∀ i∈m.code,InsOK i
set_option maxHeartbeats 1000000 in
theorem within_any (n a b:Int) (w:World):Calls Tryz.prog 160 #[.int .i64 n,.int .i64 a,.int .i64 b] w fun e w'=>e=.returned (.bool (decide (a≤n)&&decide (n≤b)))∧w'=w:=by
  go_enter Tryz.func160,Tryz.ntmps160
  by_cases h1:a≤n
  · by_cases h2:n≤b
    · go_wp2
      go_ret
      exact ⟨ret_bool (by simp [h1,h2]),rfl⟩
    · go_wp2
      go_ret
      exact ⟨ret_bool (by simp;omega),rfl⟩
  · go_wp2
    go_ret
    exact ⟨ret_bool (by simp;omega),rfl⟩
set_option maxHeartbeats 1000000 in
theorem isM_any (xn xd nm ds:ByteArray) (xf xl xs:Int) (vc:Value) (b1 b2:Nat) (w:World) (g1:w.cell? ⟨b1,0,none⟩=some (.string nm)) (g2:w.cell? ⟨b2,0,none⟩=some (.string ds)) (l1:b1<w.heap.size) (l2:b2<w.heap.size) :
    Calls Tryz.prog 154 #[.agg #[.string xn,.string xd,.int .i64 xf,.int .i64 xl,.int .i64 xs,vc],.pointer (some ⟨b1,0,none⟩),.pointer (some ⟨b2,0,none⟩)] w fun e w'=>e=.returned (.bool ((xn.toList == nm.toList)&&(xd.toList == ds.toList)))∧Below w.heap.size w w':=by
  generalize hz:((xn.toList == nm.toList)&&(xd.toList == ds.toList))=z
  have HZ:Hid _:=hz
  clear hz
  cases q1:(xn.toList == nm.toList) with
  | false =>
    go_enter Tryz.func154,Tryz.ntmps154
    go_wp2
    go_ret
    exact ⟨ret_bool (by rw [← HZ.out,q1];rfl),(Below.refl _ _).alloc (Nat.le_refl _) _⟩
  | true =>
    cases q2:(xd.toList == ds.toList) with
    | false =>
      go_enter Tryz.func154,Tryz.ntmps154
      go_wp2
      go_ret
      exact ⟨ret_bool (by rw [← HZ.out,q1,q2];rfl),(Below.refl _ _).alloc (Nat.le_refl _) _⟩
    | true =>
      go_enter Tryz.func154,Tryz.ntmps154
      go_wp2
      go_ret
      exact ⟨ret_bool (by rw [← HZ.out,q1,q2];rfl),(Below.refl _ _).alloc (Nat.le_refl _) _⟩
set_option maxHeartbeats 4000000 in
theorem idxM_any (nm ds:ByteArray) (vm:Value) (ms:List Mth) (W:World) (b1 b2:Nat) (h:IsMths W vm ms) (g1:W.cell? ⟨b1,0,none⟩=some (.string nm)) (g2:W.cell? ⟨b2,0,none⟩=some (.string ds)) (l1:b1<W.heap.size) (l2:b2<W.heap.size) :
    Calls Tryz.prog 153 #[vm,.func (.func 154) #[] #[.pointer (some ⟨b1,0,none⟩),.pointer (some ⟨b2,0,none⟩)]] W fun e w'=>e=.returned (.int .i64 (findM nm ds ms 0))∧Below W.heap.size W w':=by
  obtain ⟨ao,cap,rfl,h1,h2,h3⟩:=h
  obtain ⟨N,hN⟩:∃ N,ms.length=N:=⟨_,rfl⟩
  unfold maxLen at h2
  rw [hN] at h1 ⊢
  have HN1:Hid (ms.length=N):=hN
  have HA:Hid _:=h3
  have G1:Hid _:=g1
  have G2:Hid _:=g2
  clear hN h3 g1 g2
  go_enter Tryz.func153,Tryz.ntmps153
  go_wp2
  go_loopw [8] (fun iv wr=>∃ i:Nat,iv=.int .i64 i∧i≤N∧Hid (Below W.heap.size W wr)∧Hid (findM nm ds (ms.drop i) i=findM nm ds ms 0)) (fun iv _=>N - (intOf iv).toNat)
  case atStart=>exact ⟨0,rfl,Nat.zero_le _,Below.refl _ _,rfl⟩
  case round =>
    obtain ⟨i,rfl,hi,hb,hs⟩:=hrel
    by_cases hlt:i<N
    · obtain ⟨bk,o,hao,hbk,hc⟩:=HA.out (by intro e;have:=HN1.out;rw [e] at this;simp at this;omega)
      obtain ⟨x,hx⟩:∃ x,ms[i]?=some x:=⟨_,List.getElem?_eq_getElem (by rw [HN1.out];exact hlt)⟩
      subst hao
      have hst:=findM_at (nm:=nm) (ds:=ds) i x hx
      rw [hs.out] at hst
      have hcx:=(hc i x hx).keep hb.out hbk
      obtain ⟨xn,xd,xf,xl,xs,xc⟩:=x
      obtain ⟨p0,p1,p2,p3,p4,vc,p5,hI⟩:=hcx
      obtain ⟨va,vcap,rfl,_,_,_⟩:=hI
      simp only at p0 p1 p2 p3 p4 p5 hst
      have k1:=(hb.out.cell l1).trans G1.out
      have k2:=(hb.out.cell l2).trans G2.out
      have HC:Hid (Calls Tryz.prog 154 #[.agg #[.string xn,.string xd,.int .i64 xf,.int .i64 xl,.int .i64 xs,.slice va xc.length vcap],.pointer (some ⟨b1,0,none⟩),.pointer (some ⟨b2,0,none⟩)] wr fun e w'=>e=.returned (.bool ((xn.toList == nm.toList)&&(xd.toList == ds.toList)))∧Below wr.heap.size wr w'):=isM_any xn xd nm ds xf xl xs (.slice va xc.length vcap) b1 b2 wr k1 k2 (Nat.lt_of_lt_of_le l1 hb.out.size) (Nat.lt_of_lt_of_le l2 hb.out.size)
      generalize ((xn.toList == nm.toList)&&(xd.toList == ds.toList))=q at *
      clear hc hs HA hx k1 k2
      cases q with
      | true =>
        have HZ:Hid (findM nm ds ms 0=(i:Int)):=by rw [Hid,hst];rfl
        clear hst
        go_wp2_with (go_at_call 154;refine (HC.out).mono ?_;rintro e w1 ⟨rfl,hb1⟩)
        go_ret
        exact ⟨ret_int HZ.out.symm,Below.step hb.out hb1⟩
      | false =>
        have HZ:Hid (findM nm ds (ms.drop (i+1)) (i+1)=findM nm ds ms 0):=by rw [Hid,hst];rfl
        clear hst
        go_wp2_with (go_at_call 154;refine (HC.out).mono ?_;rintro e w1 ⟨rfl,hb1⟩;have hb2:Hid (Below W.heap.size W w1):=Below.step hb.out hb1;clear hb1)
        go_roundw
        case rel=>exact ⟨i+1,by go_num,by omega,hb2,HZ⟩
        case measure=>simp [intOf];omega
    · have e:i=N:=by omega
      subst e
      have HZ:Hid (findM nm ds ms 0=-1):=by rw [Hid,← hs.out,List.drop_of_length_le (by rw [HN1.out];exact Nat.le_refl _)];rfl
      clear hs HA
      go_wp2
      go_ret
      exact ⟨ret_int HZ.out.symm,hb.out⟩
set_option maxHeartbeats 1000000 in
theorem find_any (cn cs:ByteArray) (vi:Value) (cf cl:Int) (vm:Value) (ms:List Mth) (nm ds:ByteArray) (W:World) (h:IsMths W vm ms) :
    Calls Tryz.prog 93 #[.agg #[.string cn,.string cs,vi,.int .i64 cf,.int .i64 cl,vm],.string nm,.string ds] W fun e w'=>e=.returned (.int .i64 (findM nm ds ms 0))∧Below W.heap.size W w':=by
  have H:Hid (IsMths W vm ms):=h
  have hB:Hid (∀ o1 o2 o3,Below W.heap.size W (((W.alloc o1).alloc o2).alloc o3)):=fun o1 o2 o3=>(((Below.refl _ _).alloc (Nat.le_refl _) _).alloc (by simp) _).alloc (by simp;omega) _
  obtain ⟨ao,cap,rfl,_,_,_⟩:=h
  go_enter Tryz.func93,Tryz.ntmps93
  go_wp2_with (go_at_call 153;(refine (idxM_any nm ds _ ms _ (W.heap.size+1) (W.heap.size+1+1) ?_ ?_ ?_ ?_ ?_).mono ?_;exact H.out.keep (hB.out _ _ _);simp [go_sem];simp [go_sem];simp [go_sem];simp [go_sem];rintro e w1 ⟨rfl,hb1⟩))
  go_ret
  exact ⟨rfl,Below.step (hB.out _ _ _) hb1⟩
def opB (op:Int):Bool:=decide (0<op)&&decide (op<41)
set_option maxHeartbeats 1000000 in
theorem isOp_any (op:Int) (r:Bool) (hr:opB op=r) (w:World):Calls Tryz.prog 297 #[.int .i64 op] w fun e w'=>e=.returned (.bool r)∧w'=w:=by
  have HR:Hid (r=(decide (0<op)&&decide (op<41))):=hr.symm
  clear hr
  go_enter Tryz.func297,Tryz.ntmps297
  go_wp2
  all_goals
    go_ret
    exact ⟨ret_bool (by rw [HR.out];first|(simp [*];done)|(simp [*];omega)),rfl⟩
set_option maxHeartbeats 8000000 in
theorem operand_any (op:Int) (w:World):Calls Tryz.prog 287 #[.int .i64 op] w fun e w'=>e=.returned (.int .i64 (opdI op))∧w'=w:=by
  by_cases h:op<1∨40<op
  · have HO:Hid (opdI op=-1):=by rw [Hid,opdI,if_pos h]
    have HB:Hid (∀ w,_):=isOp_any op false (by unfold opB;rw [Bool.and_eq_false_iff];rcases h with h|h;exact .inl (decide_eq_false (by omega));exact .inr (decide_eq_false (by omega)))
    have hk:∀ k:Int,1≤k→k≤40→(op == k)=false:=fun k h1 h2=>by rw [beq_eq_false_iff_ne];omega
    have e1:=hk 1 (by omega) (by omega);have e2:=hk 2 (by omega) (by omega);have e3:=hk 3 (by omega) (by omega);have e4:=hk 4 (by omega) (by omega);have e5:=hk 5 (by omega) (by omega);have e11:=hk 11 (by omega) (by omega);have e12:=hk 12 (by omega) (by omega);have e13:=hk 13 (by omega) (by omega);have e14:=hk 14 (by omega) (by omega);have e15:=hk 15 (by omega) (by omega);have e16:=hk 16 (by omega) (by omega);have e17:=hk 17 (by omega) (by omega);have e18:=hk 18 (by omega) (by omega);have e22:=hk 22 (by omega) (by omega);have e30:=hk 30 (by omega) (by omega);have e31:=hk 31 (by omega) (by omega);have e23:=hk 23 (by omega) (by omega);have e24:=hk 24 (by omega) (by omega);have e32:=hk 32 (by omega) (by omega);have e33:=hk 33 (by omega) (by omega);have e34:=hk 34 (by omega) (by omega);have e35:=hk 35 (by omega) (by omega)
    clear hk h
    go_enter Tryz.func287,Tryz.ntmps287
    go_wp2_with (go_at_call 297;refine ((HB.out) _).mono ?_;rintro e w1 ⟨rfl,hw1⟩;rw [hw1])
    go_ret
    exact ⟨ret_int HO.out.symm,rfl⟩
  · obtain ⟨k,rfl⟩:∃ k:Nat,op=k:=⟨op.toNat,by omega⟩
    have hk:k=1∨k=2∨k=3∨k=4∨k=5∨k=6∨k=7∨k=8∨k=9∨k=10∨k=11∨k=12∨k=13∨k=14∨k=15∨k=16∨k=17∨k=18∨k=19∨k=20∨k=21∨k=22∨k=23∨k=24∨k=25∨k=26∨k=27∨k=28∨k=29∨k=30∨k=31∨k=32∨k=33∨k=34∨k=35∨k=36∨k=37∨k=38∨k=39∨k=40:=by omega
    clear h
    rcases hk with rfl|rfl|rfl|rfl|rfl|rfl|rfl|rfl|rfl|rfl|rfl|rfl|rfl|rfl|rfl|rfl|rfl|rfl|rfl|rfl|rfl|rfl|rfl|rfl|rfl|rfl|rfl|rfl|rfl|rfl|rfl|rfl|rfl|rfl|rfl|rfl|rfl|rfl|rfl|rfl
    all_goals
      go_enter Tryz.func287,Tryz.ntmps287
      go_wp2_with (go_at_call 297;refine (isOp_any _ true (by decide) _).mono ?_;rintro e w1 ⟨rfl,hw1⟩;rw [hw1])
      go_ret
      exact ⟨rfl,rfl⟩
def inB (n l h:Int):Bool:=decide (l≤n)&&decide (n≤h)
set_option maxHeartbeats 1000000 in
theorem isWithin_any (n l h:Int) (w:World):Calls Tryz.prog 293 #[.int .i64 n,.int .i64 l,.int .i64 h] w fun e w'=>e=.returned (.bool (inB n l h))∧w'=w:=by
  have HR:Hid (inB n l h=(decide (l≤n)&&decide (n≤h))):=rfl
  generalize inB n l h=r at *
  go_enter Tryz.func293,Tryz.ntmps293
  go_wp2
  all_goals
    go_ret
    exact ⟨ret_bool (by rw [HR.out];first|(simp [*];done)|(simp [*];omega)),rfl⟩
def fmB (k n locals size:Int):Bool:=if k=2 then decide (n<locals) else if k=3 then decide (n<size) else true
def ownI (i:Ins):Ins :=
  if opdI i.op=1∨opdI i.op=2∨opdI i.op=3 then ⟨i.op,i.n,⟨#[]⟩,false,⟨#[]⟩,⟨#[]⟩,⟨#[]⟩⟩
  else if opdI i.op=4∨opdI i.op=5∨opdI i.op=6 then ⟨i.op,0,i.t,false,⟨#[]⟩,⟨#[]⟩,⟨#[]⟩⟩
  else if opdI i.op=7 then ⟨i.op,i.n,i.t,false,⟨#[]⟩,⟨#[]⟩,⟨#[]⟩⟩
  else if opdI i.op=8 then ⟨i.op,0,⟨#[]⟩,i.b,i.c,i.m,i.d⟩
  else ⟨i.op,0,⟨#[]⟩,false,⟨#[]⟩,⟨#[]⟩,⟨#[]⟩⟩
set_option maxHeartbeats 4000000 in
theorem ownParts_none (op n:Int) (hk:opdI op=-1) (t:ByteArray) (b:Bool) (c m d:ByteArray) (w:World):Calls Tryz.prog 285 #[.agg #[.int .i64 op,.int .i64 n,.string t,.bool b,.string c,.string m,.string d]] w fun e w'=>e=.returned (insV (ownI ⟨op,n,t,b,c,m,d⟩))∧Below w.heap.size w w':=by
  have HO:=operand_any op
  rw [hk] at HO
  have HO:Hid (∀ w,_):=HO
  have HR:insV (ownI ⟨op,n,t,b,c,m,d⟩)=.agg #[.int .i64 op,.int .i64 0,.string ⟨#[]⟩,.bool false,.string ⟨#[]⟩,.string ⟨#[]⟩,.string ⟨#[]⟩]:=by unfold ownI;simp only [hk];rfl
  rw [HR]
  clear hk HR
  go_enter Tryz.func285,Tryz.ntmps285
  go_wp2_with (go_at_call 287;refine ((HO.out) _).mono ?_;rintro e w0 ⟨rfl,hw0⟩;rw [hw0];clear hw0 HO)
  refine bodyPost_ret (v:=.agg #[.int .i64 op,.int .i64 0,.string ⟨#[]⟩,.bool false,.string ⟨#[]⟩,.string ⟨#[]⟩,.string ⟨#[]⟩]) (by simp [results,Tryz.results285,go_sem, *]) rfl ⟨rfl,?_⟩
  exact ((Below.refl _ _).alloc (Nat.le_refl _) _).alloc (by simp) _
set_option maxHeartbeats 4000000 in
theorem fitsMethod_none (op n locals size:Int) (hk:opdI op=-1) (t:ByteArray) (b:Bool) (c m d:ByteArray) (w:World):Calls Tryz.prog 273 #[.agg #[.int .i64 op,.int .i64 n,.string t,.bool b,.string c,.string m,.string d],.int .i64 locals,.int .i64 size] w fun e w'=>e=.returned (.bool (fmB (opdI op) n locals size))∧Below w.heap.size w w':=by
  have HO:=operand_any op
  rw [hk] at HO
  have HO:Hid (∀ w,_):=HO
  have HR:fmB (opdI op) n locals size=true:=by rw [hk];rfl
  rw [HR]
  clear hk HR
  go_enter Tryz.func273,Tryz.ntmps273
  go_wp2_with (go_at_call 287;refine ((HO.out) _).mono ?_;rintro e w0 ⟨rfl,hw0⟩;rw [hw0];clear hw0 HO)
  go_ret
  exact ⟨ret_bool rfl,(Below.refl _ _).alloc (Nat.le_refl _) _⟩
set_option maxHeartbeats 4000000 in
theorem ownParts_0 (op n:Int) (hk:opdI op=0) (t:ByteArray) (b:Bool) (c m d:ByteArray) (w:World):Calls Tryz.prog 285 #[.agg #[.int .i64 op,.int .i64 n,.string t,.bool b,.string c,.string m,.string d]] w fun e w'=>e=.returned (insV (ownI ⟨op,n,t,b,c,m,d⟩))∧Below w.heap.size w w':=by
  have HO:=operand_any op
  rw [hk] at HO
  have HO:Hid (∀ w,_):=HO
  have HR:insV (ownI ⟨op,n,t,b,c,m,d⟩)=.agg #[.int .i64 op,.int .i64 0,.string ⟨#[]⟩,.bool false,.string ⟨#[]⟩,.string ⟨#[]⟩,.string ⟨#[]⟩]:=by unfold ownI;simp only [hk];rfl
  rw [HR]
  clear hk HR
  go_enter Tryz.func285,Tryz.ntmps285
  go_wp2_with (go_at_call 287;refine ((HO.out) _).mono ?_;rintro e w0 ⟨rfl,hw0⟩;rw [hw0];clear hw0 HO)
  refine bodyPost_ret (v:=.agg #[.int .i64 op,.int .i64 0,.string ⟨#[]⟩,.bool false,.string ⟨#[]⟩,.string ⟨#[]⟩,.string ⟨#[]⟩]) (by simp [results,Tryz.results285,go_sem, *]) rfl ⟨rfl,?_⟩
  exact ((Below.refl _ _).alloc (Nat.le_refl _) _).alloc (by simp) _
set_option maxHeartbeats 4000000 in
theorem fitsMethod_0 (op n locals size:Int) (hk:opdI op=0) (t:ByteArray) (b:Bool) (c m d:ByteArray) (w:World):Calls Tryz.prog 273 #[.agg #[.int .i64 op,.int .i64 n,.string t,.bool b,.string c,.string m,.string d],.int .i64 locals,.int .i64 size] w fun e w'=>e=.returned (.bool (fmB (opdI op) n locals size))∧Below w.heap.size w w':=by
  have HO:=operand_any op
  rw [hk] at HO
  have HO:Hid (∀ w,_):=HO
  have HR:fmB (opdI op) n locals size=true:=by rw [hk];rfl
  rw [HR]
  clear hk HR
  go_enter Tryz.func273,Tryz.ntmps273
  go_wp2_with (go_at_call 287;refine ((HO.out) _).mono ?_;rintro e w0 ⟨rfl,hw0⟩;rw [hw0];clear hw0 HO)
  go_ret
  exact ⟨ret_bool rfl,(Below.refl _ _).alloc (Nat.le_refl _) _⟩
set_option maxHeartbeats 4000000 in
theorem ownParts_1 (op n:Int) (hk:opdI op=1) (t:ByteArray) (b:Bool) (c m d:ByteArray) (w:World):Calls Tryz.prog 285 #[.agg #[.int .i64 op,.int .i64 n,.string t,.bool b,.string c,.string m,.string d]] w fun e w'=>e=.returned (insV (ownI ⟨op,n,t,b,c,m,d⟩))∧Below w.heap.size w w':=by
  have HO:=operand_any op
  rw [hk] at HO
  have HO:Hid (∀ w,_):=HO
  have HR:insV (ownI ⟨op,n,t,b,c,m,d⟩)=.agg #[.int .i64 op,.int .i64 n,.string ⟨#[]⟩,.bool false,.string ⟨#[]⟩,.string ⟨#[]⟩,.string ⟨#[]⟩]:=by unfold ownI;simp only [hk];rfl
  rw [HR]
  clear hk HR
  go_enter Tryz.func285,Tryz.ntmps285
  go_wp2_with (go_at_call 287;refine ((HO.out) _).mono ?_;rintro e w0 ⟨rfl,hw0⟩;rw [hw0];clear hw0 HO)
  refine bodyPost_ret (v:=.agg #[.int .i64 op,.int .i64 n,.string ⟨#[]⟩,.bool false,.string ⟨#[]⟩,.string ⟨#[]⟩,.string ⟨#[]⟩]) (by simp [results,Tryz.results285,go_sem, *]) rfl ⟨rfl,?_⟩
  exact ((Below.refl _ _).alloc (Nat.le_refl _) _).alloc (by simp) _
set_option maxHeartbeats 4000000 in
theorem fitsMethod_1 (op n locals size:Int) (hk:opdI op=1) (t:ByteArray) (b:Bool) (c m d:ByteArray) (w:World):Calls Tryz.prog 273 #[.agg #[.int .i64 op,.int .i64 n,.string t,.bool b,.string c,.string m,.string d],.int .i64 locals,.int .i64 size] w fun e w'=>e=.returned (.bool (fmB (opdI op) n locals size))∧Below w.heap.size w w':=by
  have HO:=operand_any op
  rw [hk] at HO
  have HO:Hid (∀ w,_):=HO
  have HR:fmB (opdI op) n locals size=true:=by rw [hk];rfl
  rw [HR]
  clear hk HR
  go_enter Tryz.func273,Tryz.ntmps273
  go_wp2_with (go_at_call 287;refine ((HO.out) _).mono ?_;rintro e w0 ⟨rfl,hw0⟩;rw [hw0];clear hw0 HO)
  go_ret
  exact ⟨ret_bool rfl,(Below.refl _ _).alloc (Nat.le_refl _) _⟩
set_option maxHeartbeats 4000000 in
theorem ownParts_2 (op n:Int) (hk:opdI op=2) (t:ByteArray) (b:Bool) (c m d:ByteArray) (w:World):Calls Tryz.prog 285 #[.agg #[.int .i64 op,.int .i64 n,.string t,.bool b,.string c,.string m,.string d]] w fun e w'=>e=.returned (insV (ownI ⟨op,n,t,b,c,m,d⟩))∧Below w.heap.size w w':=by
  have HO:=operand_any op
  rw [hk] at HO
  have HO:Hid (∀ w,_):=HO
  have HR:insV (ownI ⟨op,n,t,b,c,m,d⟩)=.agg #[.int .i64 op,.int .i64 n,.string ⟨#[]⟩,.bool false,.string ⟨#[]⟩,.string ⟨#[]⟩,.string ⟨#[]⟩]:=by unfold ownI;simp only [hk];rfl
  rw [HR]
  clear hk HR
  go_enter Tryz.func285,Tryz.ntmps285
  go_wp2_with (go_at_call 287;refine ((HO.out) _).mono ?_;rintro e w0 ⟨rfl,hw0⟩;rw [hw0];clear hw0 HO)
  refine bodyPost_ret (v:=.agg #[.int .i64 op,.int .i64 n,.string ⟨#[]⟩,.bool false,.string ⟨#[]⟩,.string ⟨#[]⟩,.string ⟨#[]⟩]) (by simp [results,Tryz.results285,go_sem, *]) rfl ⟨rfl,?_⟩
  exact ((Below.refl _ _).alloc (Nat.le_refl _) _).alloc (by simp) _
set_option maxHeartbeats 4000000 in
theorem fitsMethod_2 (op n locals size:Int) (hk:opdI op=2) (t:ByteArray) (b:Bool) (c m d:ByteArray) (w:World):Calls Tryz.prog 273 #[.agg #[.int .i64 op,.int .i64 n,.string t,.bool b,.string c,.string m,.string d],.int .i64 locals,.int .i64 size] w fun e w'=>e=.returned (.bool (fmB (opdI op) n locals size))∧Below w.heap.size w w':=by
  have HO:=operand_any op
  rw [hk] at HO
  have HO:Hid (∀ w,_):=HO
  have HR:fmB (opdI op) n locals size=decide (n<locals):=by rw [hk];rfl
  rw [HR]
  clear hk HR
  go_enter Tryz.func273,Tryz.ntmps273
  go_wp2_with (go_at_call 287;refine ((HO.out) _).mono ?_;rintro e w0 ⟨rfl,hw0⟩;rw [hw0];clear hw0 HO)
  go_ret
  exact ⟨ret_bool rfl,(Below.refl _ _).alloc (Nat.le_refl _) _⟩
set_option maxHeartbeats 4000000 in
theorem ownParts_3 (op n:Int) (hk:opdI op=3) (t:ByteArray) (b:Bool) (c m d:ByteArray) (w:World):Calls Tryz.prog 285 #[.agg #[.int .i64 op,.int .i64 n,.string t,.bool b,.string c,.string m,.string d]] w fun e w'=>e=.returned (insV (ownI ⟨op,n,t,b,c,m,d⟩))∧Below w.heap.size w w':=by
  have HO:=operand_any op
  rw [hk] at HO
  have HO:Hid (∀ w,_):=HO
  have HR:insV (ownI ⟨op,n,t,b,c,m,d⟩)=.agg #[.int .i64 op,.int .i64 n,.string ⟨#[]⟩,.bool false,.string ⟨#[]⟩,.string ⟨#[]⟩,.string ⟨#[]⟩]:=by unfold ownI;simp only [hk];rfl
  rw [HR]
  clear hk HR
  go_enter Tryz.func285,Tryz.ntmps285
  go_wp2_with (go_at_call 287;refine ((HO.out) _).mono ?_;rintro e w0 ⟨rfl,hw0⟩;rw [hw0];clear hw0 HO)
  refine bodyPost_ret (v:=.agg #[.int .i64 op,.int .i64 n,.string ⟨#[]⟩,.bool false,.string ⟨#[]⟩,.string ⟨#[]⟩,.string ⟨#[]⟩]) (by simp [results,Tryz.results285,go_sem, *]) rfl ⟨rfl,?_⟩
  exact ((Below.refl _ _).alloc (Nat.le_refl _) _).alloc (by simp) _
set_option maxHeartbeats 4000000 in
theorem fitsMethod_3 (op n locals size:Int) (hk:opdI op=3) (t:ByteArray) (b:Bool) (c m d:ByteArray) (w:World):Calls Tryz.prog 273 #[.agg #[.int .i64 op,.int .i64 n,.string t,.bool b,.string c,.string m,.string d],.int .i64 locals,.int .i64 size] w fun e w'=>e=.returned (.bool (fmB (opdI op) n locals size))∧Below w.heap.size w w':=by
  have HO:=operand_any op
  rw [hk] at HO
  have HO:Hid (∀ w,_):=HO
  have HR:fmB (opdI op) n locals size=decide (n<size):=by rw [hk];rfl
  rw [HR]
  clear hk HR
  go_enter Tryz.func273,Tryz.ntmps273
  go_wp2_with (go_at_call 287;refine ((HO.out) _).mono ?_;rintro e w0 ⟨rfl,hw0⟩;rw [hw0];clear hw0 HO)
  go_ret
  exact ⟨ret_bool rfl,(Below.refl _ _).alloc (Nat.le_refl _) _⟩
set_option maxHeartbeats 4000000 in
theorem ownParts_4 (op n:Int) (hk:opdI op=4) (t:ByteArray) (b:Bool) (c m d:ByteArray) (w:World):Calls Tryz.prog 285 #[.agg #[.int .i64 op,.int .i64 n,.string t,.bool b,.string c,.string m,.string d]] w fun e w'=>e=.returned (insV (ownI ⟨op,n,t,b,c,m,d⟩))∧Below w.heap.size w w':=by
  have HO:=operand_any op
  rw [hk] at HO
  have HO:Hid (∀ w,_):=HO
  have HR:insV (ownI ⟨op,n,t,b,c,m,d⟩)=.agg #[.int .i64 op,.int .i64 0,.string t,.bool false,.string ⟨#[]⟩,.string ⟨#[]⟩,.string ⟨#[]⟩]:=by unfold ownI;simp only [hk];rfl
  rw [HR]
  clear hk HR
  go_enter Tryz.func285,Tryz.ntmps285
  go_wp2_with (go_at_call 287;refine ((HO.out) _).mono ?_;rintro e w0 ⟨rfl,hw0⟩;rw [hw0];clear hw0 HO)
  refine bodyPost_ret (v:=.agg #[.int .i64 op,.int .i64 0,.string t,.bool false,.string ⟨#[]⟩,.string ⟨#[]⟩,.string ⟨#[]⟩]) (by simp [results,Tryz.results285,go_sem, *]) rfl ⟨rfl,?_⟩
  exact ((Below.refl _ _).alloc (Nat.le_refl _) _).alloc (by simp) _
set_option maxHeartbeats 4000000 in
theorem fitsMethod_4 (op n locals size:Int) (hk:opdI op=4) (t:ByteArray) (b:Bool) (c m d:ByteArray) (w:World):Calls Tryz.prog 273 #[.agg #[.int .i64 op,.int .i64 n,.string t,.bool b,.string c,.string m,.string d],.int .i64 locals,.int .i64 size] w fun e w'=>e=.returned (.bool (fmB (opdI op) n locals size))∧Below w.heap.size w w':=by
  have HO:=operand_any op
  rw [hk] at HO
  have HO:Hid (∀ w,_):=HO
  have HR:fmB (opdI op) n locals size=true:=by rw [hk];rfl
  rw [HR]
  clear hk HR
  go_enter Tryz.func273,Tryz.ntmps273
  go_wp2_with (go_at_call 287;refine ((HO.out) _).mono ?_;rintro e w0 ⟨rfl,hw0⟩;rw [hw0];clear hw0 HO)
  go_ret
  exact ⟨ret_bool rfl,(Below.refl _ _).alloc (Nat.le_refl _) _⟩
set_option maxHeartbeats 4000000 in
theorem ownParts_5 (op n:Int) (hk:opdI op=5) (t:ByteArray) (b:Bool) (c m d:ByteArray) (w:World):Calls Tryz.prog 285 #[.agg #[.int .i64 op,.int .i64 n,.string t,.bool b,.string c,.string m,.string d]] w fun e w'=>e=.returned (insV (ownI ⟨op,n,t,b,c,m,d⟩))∧Below w.heap.size w w':=by
  have HO:=operand_any op
  rw [hk] at HO
  have HO:Hid (∀ w,_):=HO
  have HR:insV (ownI ⟨op,n,t,b,c,m,d⟩)=.agg #[.int .i64 op,.int .i64 0,.string t,.bool false,.string ⟨#[]⟩,.string ⟨#[]⟩,.string ⟨#[]⟩]:=by unfold ownI;simp only [hk];rfl
  rw [HR]
  clear hk HR
  go_enter Tryz.func285,Tryz.ntmps285
  go_wp2_with (go_at_call 287;refine ((HO.out) _).mono ?_;rintro e w0 ⟨rfl,hw0⟩;rw [hw0];clear hw0 HO)
  refine bodyPost_ret (v:=.agg #[.int .i64 op,.int .i64 0,.string t,.bool false,.string ⟨#[]⟩,.string ⟨#[]⟩,.string ⟨#[]⟩]) (by simp [results,Tryz.results285,go_sem, *]) rfl ⟨rfl,?_⟩
  exact ((Below.refl _ _).alloc (Nat.le_refl _) _).alloc (by simp) _
set_option maxHeartbeats 4000000 in
theorem fitsMethod_5 (op n locals size:Int) (hk:opdI op=5) (t:ByteArray) (b:Bool) (c m d:ByteArray) (w:World):Calls Tryz.prog 273 #[.agg #[.int .i64 op,.int .i64 n,.string t,.bool b,.string c,.string m,.string d],.int .i64 locals,.int .i64 size] w fun e w'=>e=.returned (.bool (fmB (opdI op) n locals size))∧Below w.heap.size w w':=by
  have HO:=operand_any op
  rw [hk] at HO
  have HO:Hid (∀ w,_):=HO
  have HR:fmB (opdI op) n locals size=true:=by rw [hk];rfl
  rw [HR]
  clear hk HR
  go_enter Tryz.func273,Tryz.ntmps273
  go_wp2_with (go_at_call 287;refine ((HO.out) _).mono ?_;rintro e w0 ⟨rfl,hw0⟩;rw [hw0];clear hw0 HO)
  go_ret
  exact ⟨ret_bool rfl,(Below.refl _ _).alloc (Nat.le_refl _) _⟩
set_option maxHeartbeats 4000000 in
theorem ownParts_6 (op n:Int) (hk:opdI op=6) (t:ByteArray) (b:Bool) (c m d:ByteArray) (w:World):Calls Tryz.prog 285 #[.agg #[.int .i64 op,.int .i64 n,.string t,.bool b,.string c,.string m,.string d]] w fun e w'=>e=.returned (insV (ownI ⟨op,n,t,b,c,m,d⟩))∧Below w.heap.size w w':=by
  have HO:=operand_any op
  rw [hk] at HO
  have HO:Hid (∀ w,_):=HO
  have HR:insV (ownI ⟨op,n,t,b,c,m,d⟩)=.agg #[.int .i64 op,.int .i64 0,.string t,.bool false,.string ⟨#[]⟩,.string ⟨#[]⟩,.string ⟨#[]⟩]:=by unfold ownI;simp only [hk];rfl
  rw [HR]
  clear hk HR
  go_enter Tryz.func285,Tryz.ntmps285
  go_wp2_with (go_at_call 287;refine ((HO.out) _).mono ?_;rintro e w0 ⟨rfl,hw0⟩;rw [hw0];clear hw0 HO)
  refine bodyPost_ret (v:=.agg #[.int .i64 op,.int .i64 0,.string t,.bool false,.string ⟨#[]⟩,.string ⟨#[]⟩,.string ⟨#[]⟩]) (by simp [results,Tryz.results285,go_sem, *]) rfl ⟨rfl,?_⟩
  exact ((Below.refl _ _).alloc (Nat.le_refl _) _).alloc (by simp) _
set_option maxHeartbeats 4000000 in
theorem fitsMethod_6 (op n locals size:Int) (hk:opdI op=6) (t:ByteArray) (b:Bool) (c m d:ByteArray) (w:World):Calls Tryz.prog 273 #[.agg #[.int .i64 op,.int .i64 n,.string t,.bool b,.string c,.string m,.string d],.int .i64 locals,.int .i64 size] w fun e w'=>e=.returned (.bool (fmB (opdI op) n locals size))∧Below w.heap.size w w':=by
  have HO:=operand_any op
  rw [hk] at HO
  have HO:Hid (∀ w,_):=HO
  have HR:fmB (opdI op) n locals size=true:=by rw [hk];rfl
  rw [HR]
  clear hk HR
  go_enter Tryz.func273,Tryz.ntmps273
  go_wp2_with (go_at_call 287;refine ((HO.out) _).mono ?_;rintro e w0 ⟨rfl,hw0⟩;rw [hw0];clear hw0 HO)
  go_ret
  exact ⟨ret_bool rfl,(Below.refl _ _).alloc (Nat.le_refl _) _⟩
set_option maxHeartbeats 4000000 in
theorem ownParts_7 (op n:Int) (hk:opdI op=7) (t:ByteArray) (b:Bool) (c m d:ByteArray) (w:World):Calls Tryz.prog 285 #[.agg #[.int .i64 op,.int .i64 n,.string t,.bool b,.string c,.string m,.string d]] w fun e w'=>e=.returned (insV (ownI ⟨op,n,t,b,c,m,d⟩))∧Below w.heap.size w w':=by
  have HO:=operand_any op
  rw [hk] at HO
  have HO:Hid (∀ w,_):=HO
  have HR:insV (ownI ⟨op,n,t,b,c,m,d⟩)=.agg #[.int .i64 op,.int .i64 n,.string t,.bool false,.string ⟨#[]⟩,.string ⟨#[]⟩,.string ⟨#[]⟩]:=by unfold ownI;simp only [hk];rfl
  rw [HR]
  clear hk HR
  go_enter Tryz.func285,Tryz.ntmps285
  go_wp2_with (go_at_call 287;refine ((HO.out) _).mono ?_;rintro e w0 ⟨rfl,hw0⟩;rw [hw0];clear hw0 HO)
  refine bodyPost_ret (v:=.agg #[.int .i64 op,.int .i64 n,.string t,.bool false,.string ⟨#[]⟩,.string ⟨#[]⟩,.string ⟨#[]⟩]) (by simp [results,Tryz.results285,go_sem, *]) rfl ⟨rfl,?_⟩
  exact ((Below.refl _ _).alloc (Nat.le_refl _) _).alloc (by simp) _
set_option maxHeartbeats 4000000 in
theorem fitsMethod_7 (op n locals size:Int) (hk:opdI op=7) (t:ByteArray) (b:Bool) (c m d:ByteArray) (w:World):Calls Tryz.prog 273 #[.agg #[.int .i64 op,.int .i64 n,.string t,.bool b,.string c,.string m,.string d],.int .i64 locals,.int .i64 size] w fun e w'=>e=.returned (.bool (fmB (opdI op) n locals size))∧Below w.heap.size w w':=by
  have HO:=operand_any op
  rw [hk] at HO
  have HO:Hid (∀ w,_):=HO
  have HR:fmB (opdI op) n locals size=true:=by rw [hk];rfl
  rw [HR]
  clear hk HR
  go_enter Tryz.func273,Tryz.ntmps273
  go_wp2_with (go_at_call 287;refine ((HO.out) _).mono ?_;rintro e w0 ⟨rfl,hw0⟩;rw [hw0];clear hw0 HO)
  go_ret
  exact ⟨ret_bool rfl,(Below.refl _ _).alloc (Nat.le_refl _) _⟩
set_option maxHeartbeats 4000000 in
theorem ownParts_8 (op n:Int) (hk:opdI op=8) (t:ByteArray) (b:Bool) (c m d:ByteArray) (w:World):Calls Tryz.prog 285 #[.agg #[.int .i64 op,.int .i64 n,.string t,.bool b,.string c,.string m,.string d]] w fun e w'=>e=.returned (insV (ownI ⟨op,n,t,b,c,m,d⟩))∧Below w.heap.size w w':=by
  have HO:=operand_any op
  rw [hk] at HO
  have HO:Hid (∀ w,_):=HO
  have HR:insV (ownI ⟨op,n,t,b,c,m,d⟩)=.agg #[.int .i64 op,.int .i64 0,.string ⟨#[]⟩,.bool b,.string c,.string m,.string d]:=by unfold ownI;simp only [hk];rfl
  rw [HR]
  clear hk HR
  go_enter Tryz.func285,Tryz.ntmps285
  go_wp2_with (go_at_call 287;refine ((HO.out) _).mono ?_;rintro e w0 ⟨rfl,hw0⟩;rw [hw0];clear hw0 HO)
  refine bodyPost_ret (v:=.agg #[.int .i64 op,.int .i64 0,.string ⟨#[]⟩,.bool b,.string c,.string m,.string d]) (by simp [results,Tryz.results285,go_sem, *]) rfl ⟨rfl,?_⟩
  exact ((Below.refl _ _).alloc (Nat.le_refl _) _).alloc (by simp) _
set_option maxHeartbeats 4000000 in
theorem fitsMethod_8 (op n locals size:Int) (hk:opdI op=8) (t:ByteArray) (b:Bool) (c m d:ByteArray) (w:World):Calls Tryz.prog 273 #[.agg #[.int .i64 op,.int .i64 n,.string t,.bool b,.string c,.string m,.string d],.int .i64 locals,.int .i64 size] w fun e w'=>e=.returned (.bool (fmB (opdI op) n locals size))∧Below w.heap.size w w':=by
  have HO:=operand_any op
  rw [hk] at HO
  have HO:Hid (∀ w,_):=HO
  have HR:fmB (opdI op) n locals size=true:=by rw [hk];rfl
  rw [HR]
  clear hk HR
  go_enter Tryz.func273,Tryz.ntmps273
  go_wp2_with (go_at_call 287;refine ((HO.out) _).mono ?_;rintro e w0 ⟨rfl,hw0⟩;rw [hw0];clear hw0 HO)
  go_ret
  exact ⟨ret_bool rfl,(Below.refl _ _).alloc (Nat.le_refl _) _⟩
end Go.Proofs.YthfifobokpfpkaaGreat
