import Derived.Test.YtlohdfpinmdljaaGreatDoorOwnC
import Derived.Test.YtlohdfpinmdljaaGreatDoorShpD
import Derived.Deep.Slices
import Derived.Deep.Strs
import Derived.SizedLaws
import Derived.Lib.SmallJoins
namespace Go.Proofs.YtlohdfpinmdljaaGreatDoor
open Go.ChangeShapes Go.WideShapes Go.ChangeAt Go.RowKit Go.Joins Go.Deep
def InsW (i:Ins):Prop:=(-9223372036854775808≤i.n∧i.n≤9223372036854775807)∧InsOK i
theorem flatI_ins (l:List Ins) (k:Nat) (i:Ins) (h:l[k]?=some i) (j:Nat) (hj:j<7):(flatI l)[k * 7+j]?=(insC i)[j]?:=by
  obtain ⟨e0,e1,e2,e3,e4,e5,e6⟩:=flatI_at l k i h
  match j,hj with
  | 0,_=>exact e0
  | 1,_=>exact e1
  | 2,_=>exact e2
  | 3,_=>exact e3
  | 4,_=>exact e4
  | 5,_=>exact e5
  | 6,_=>exact e6
def Shp (v:Value):Prop:=v=.slice none 0 0∨∃ a n c,v=.slice (some a) n c
def MthW (m:Mth):Prop:=m.nm.size≤maxLen∧m.ds.size≤maxLen∧(-9223372036854775808≤m.fl∧m.fl≤9223372036854775807)∧(-9223372036854775808≤m.lo∧m.lo≤9223372036854775807)∧(-9223372036854775808≤m.st∧m.st≤9223372036854775807)∧∀ i∈m.code,InsW i
def ClsW (c:Cls):Prop:=c.nm.size≤maxLen∧c.su.size≤maxLen∧(∀ p∈c.ifs,p.length≤maxLen)∧(-9223372036854775808≤c.fl∧c.fl≤9223372036854775807)∧(-9223372036854775808≤c.ld∧c.ld≤9223372036854775807)∧∀ m∈c.ms,MthW m
structure ClsIn (W:World) (vi vm:Value) (c:Cls):Prop where
  ifs:IsStrs W vi c.ifs
  ms:IsMths W vm c.ms
  si:Shp vi
  sm:Shp vm
  sc:∀ bk o n cap,vm=.slice (some ⟨bk,o,none⟩) n cap→∀ k,k<c.ms.length→∀ v,W.cell? ⟨bk,o+k * 6+5,none⟩=some v→Shp v
  ok:ClsW c
def IsClss (w:World) (v:Value) (l:List Cls):Prop :=
  ∃ ao cap,v=.slice ao l.length cap∧l.length≤cap∧cap≤maxLen ∧
    (l≠[]→∃ bk o,ao=some ⟨bk,o,none⟩∧bk<w.heap.size∧∀ k c,l[k]?=some c→∃ vi vm,(∀ j u,[Value.string c.nm,.string c.su,vi,.int .i64 c.fl,.int .i64 c.ld,vm][j]?=some u→w.cell? ⟨bk,o+k * 6+j,none⟩=some u)∧ClsIn w vi vm c)
end Go.Proofs.YtlohdfpinmdljaaGreatDoor
