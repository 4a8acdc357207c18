import Derived.Test.YtjlfnelihbdhjaaGreatSoA
import Derived.Deep.LoopGhost
import Derived.Deep.RegionWith
import Derived.Deep.QuietTactic
import Derived.BigQuiet
namespace Go.Proofs.YtjlfnelihbdhjaaGreat
open Go.RowKit
theorem pdD_len (l:List UInt8):(pdD l).1.length≤20:=by
  unfold pdD
  split
  · rename_i h
    unfold pdE at h
    split at h
    · exact absurd h (by decide)
    · split at h
      · exact absurd h (by decide)
      · rename_i d hd
        split at h
        · exact absurd h (by decide)
        · rename_i hg
          simp only [largeD,Bool.not_eq_true,Bool.or_eq_false_iff,decide_eq_false_iff_not] at hg
          rw [hd]
          have:=hg.1.1
          simp only [Option.getD_some]
          omega
  · simp
def wdsN (ds:List UInt8) (fl:Int):Int:=if pdE ds=0 then ((pdD ds).1.length:Int)+(if hasI fl 8 then 0 else 1) else 0
def wdsE (ds:List UInt8):Int:=if pdE ds=0 then 0 else 1
def mthB (m:Mth) (iface:Bool):Bool :=
  memberL m.nm.data.toList&&(chkM m.fl iface (m.nm.toList == [60,105,110,105,116,62]) == 0)&&(pdE m.ds.data.toList == 0)&&!((m.nm.toList == [60,105,110,105,116,62])&&!voidB (pdD m.ds.data.toList).2) &&
    (if hasI m.fl 1024 then (m.lo == 0) && (m.st == 0) && ((m.code.length : Int) == 0)
     else !decide (m.st<0)&&!decide (40<m.st)&&!decide (m.lo<wdsN m.ds.data.toList m.fl)&&!decide (40<m.lo)&&(allE m.code m.lo == 0))
def ifsB (nm:List UInt8):List (List UInt8)→List (List UInt8)→Bool
  | _,[]=>true
  | pre,p::r=>validL p&&!(p == nm)&&!(pre.contains p)&&ifsB nm (pre++[p]) r
theorem ifsB_at (nm:List UInt8) {l:List (List UInt8)} (k:Nat) (p:List UInt8) (h:l[k]?=some p):ifsB nm (l.take k) (l.drop k)=(validL p&&!(p == nm)&&!((l.take k).contains p)&&ifsB nm (l.take (k+1)) (l.drop (k+1))):=by
  obtain ⟨h1,h2⟩:=List.getElem?_eq_some_iff.1 h
  rw [List.drop_eq_getElem_cons h1,h2,ifsB,List.take_add_one,h];rfl
def CB (w:World) (b:Nat) (nm su:ByteArray) (vi:Value) (fl ld:Int) (vm:Value):Prop :=
  b<w.heap.size∧w.cell? ⟨b,0,none⟩=some (.string nm)∧w.cell? ⟨b,1,none⟩=some (.string su)∧w.cell? ⟨b,2,none⟩=some vi∧w.cell? ⟨b,3,none⟩=some (.int .i64 fl)∧w.cell? ⟨b,4,none⟩=some (.int .i64 ld)∧w.cell? ⟨b,5,none⟩=some vm
theorem CB.keep {w w':World} {b:Nat} {nm su:ByteArray} {vi:Value} {fl ld:Int} {vm:Value} (h:CB w b nm su vi fl ld vm) (hb:Below w.heap.size w w'):CB w' b nm su vi fl ld vm:=by
  obtain ⟨h,h0,h1,h2,h3,h4,h5⟩:=h
  exact ⟨Nat.lt_of_lt_of_le h hb.size,(hb.cell h).trans h0,(hb.cell h).trans h1,(hb.cell h).trans h2,(hb.cell h).trans h3,(hb.cell h).trans h4,(hb.cell h).trans h5⟩
def mthsB (iface:Bool) (all:List Mth):List Mth→Nat→Bool
  | [],_=>true
  | m::r,k=>mthB m iface&&(findM m.nm m.ds all 0 == (k:Int))&&mthsB iface all r (k+1)
theorem mthsB_at (iface:Bool) (all:List Mth) {l:List Mth} (k:Nat) (x:Mth) (h:l[k]?=some x):mthsB iface all (l.drop k) k=(mthB x iface&&(findM x.nm x.ds all 0 == (k:Int))&&mthsB iface all (l.drop (k+1)) (k+1)):=by
  obtain ⟨h1,h2⟩:=List.getElem?_eq_some_iff.1 h
  rw [List.drop_eq_getElem_cons h1,h2,mthsB]
def clsB (c:Cls):Bool :=
  validL c.nm.data.toList&&validL c.su.data.toList&&!(c.nm.toList == c.su.toList)&&!decide (20<(c.ifs.length:Int))&&!decide (40<(c.ms.length:Int))&&!decide (c.ld<0)&&!decide (9<c.ld)&&(chkC c.fl == 0) &&
    ifsB c.nm.data.toList [] c.ifs&&mthsB (hasI c.fl 512) c.ms c.ms 0
def clsE (c:Cls):Int:=if clsB c then 0 else 1
def MthOK (m:Mth):Prop:=m.nm.size≤maxLen∧m.ds.size≤maxLen∧∀ i∈m.code,InsOK i
end Go.Proofs.YtjlfnelihbdhjaaGreat
