import Derived.Test.YtjlfnelihbdhjaaGreatRefDesc
import Derived.Lib.ItoaNum
import Derived.Lib.ItoaLen
import Derived.Laws.IdiomStrings
import Derived.Deep.RegionWith
namespace Go.Proofs.YtjlfnelihbdhjaaGreat
open Go.RowKit
def opdTab:List Int:=[-1,1,2,2,2,2,0,0,0,0,0,3,3,3,3,3,3,3,3,0,0,0,4,6,7,0,0,0,0,0,5,5,8,8,8,8,0,0,0,0,0]
def opdI (op:Int):Int:=if op<1∨40<op then -1 else opdTab.getD op.toNat 0
def noRefB (b:Bool) (c n d:ByteArray):Bool:=!b&&c.toList.isEmpty&&n.toList.isEmpty&&d.toList.isEmpty
def sameRefB (b1:Bool) (c1 n1 d1:ByteArray) (b2:Bool) (c2 n2 d2:ByteArray):Bool:=(b1 == b2)&&(c1.toList == c2.toList)&&(n1.toList == n2.toList)&&(d1.toList == d2.toList)
def rckB (c n d:List UInt8):Bool:=(prfE c == 0)&&memberL n&&(pdE d == 0)
def rckE (c n d:List UInt8):Int:=if rckB c n d then 0 else 1
theorem opd_cases (op:Int):opdI op=-1∨opdI op=0∨opdI op=1∨opdI op=2∨opdI op=3∨opdI op=4∨opdI op=5∨opdI op=6∨opdI op=7∨opdI op=8:=by
  by_cases h:op<1∨40<op
  · left;rw [opdI,if_pos h]
  · have hx:∀ k:Fin 41,(opdTab.getD k.1 0=-1∨opdTab.getD k.1 0=0∨opdTab.getD k.1 0=1∨opdTab.getD k.1 0=2∨opdTab.getD k.1 0=3∨opdTab.getD k.1 0=4∨opdTab.getD k.1 0=5∨opdTab.getD k.1 0=6∨opdTab.getD k.1 0=7∨opdTab.getD k.1 0=8):=by decide
    have:=hx ⟨op.toNat,by omega⟩
    rw [opdI,if_neg h]
    exact this
def insB (k n:Int) (te:Bool) (t:List UInt8) (z r:Bool):Bool :=
  if k=0 then z&&(n == 0)&&te
  else if k=1 then z&&te&&decide (-2147483648≤n)&&decide (n≤2147483647)
  else if k=2 then z&&te&&decide (0≤n)&&decide (n<40)
  else if k=3 then z&&te&&decide (0≤n)&&decide (n<200)
  else if k=4 then z&&(n == 0)&&validL t
  else if k=5 then z&&(n == 0)&&(prfE t == 0)
  else if k=6 then z&&(n == 0)&&(parE t == 0)&&decide ((parT t).1<255)
  else if k=7 then z&&(prfE t == 0)&&decide (1≤n)&&decide (n≤(prfT t).1)
  else if k=8 then (n == 0)&&te&&r
  else false
def ickE (op n:Int) (t:ByteArray) (b:Bool) (c m d:ByteArray):Int:=if insB (opdI op) n t.toList.isEmpty t.data.toList (noRefB b c m d) (rckB c.data.toList m.data.toList d.data.toList) then 0 else 1
structure Ins where
  op:Int
  n:Int
  t:ByteArray
  b:Bool
  c:ByteArray
  m:ByteArray
  d:ByteArray
def insC (i:Ins):List Value:=[.int .i64 i.op,.int .i64 i.n,.string i.t,.bool i.b,.string i.c,.string i.m,.string i.d]
def insV (i:Ins):Value:=.agg (insC i).toArray
def flatI (l:List Ins):List Value:=l.flatMap insC
theorem flatI_length (l:List Ins):(flatI l).length=l.length * 7:=by
  induction l with
  | nil=>rfl
  | cons t ts ih=>simp only [flatI,List.flatMap_cons,List.length_append,insC] at *;rw [ih];simp;omega
theorem flatI_at (l:List Ins) (k:Nat) (i:Ins) (h:l[k]?=some i):(flatI l)[k * 7]?=some (.int .i64 i.op)∧(flatI l)[k * 7+1]?=some (.int .i64 i.n)∧(flatI l)[k * 7+2]?=some (.string i.t)∧(flatI l)[k * 7+3]?=some (.bool i.b)∧(flatI l)[k * 7+4]?=some (.string i.c)∧(flatI l)[k * 7+5]?=some (.string i.m)∧(flatI l)[k * 7+6]?=some (.string i.d):=by
  induction l generalizing k with
  | nil=>simp at h
  | cons u ts ih =>
    have e:flatI (u::ts)=.int .i64 u.op::.int .i64 u.n::.string u.t::.bool u.b::.string u.c::.string u.m::.string u.d::flatI ts:=by simp [flatI,insC]
    rw [e]
    cases k with
    | zero=>simp at h;subst h;exact ⟨rfl,rfl,rfl,rfl,rfl,rfl,rfl⟩
    | succ k =>
      simp at h
      have:=ih k h
      rw [show (k+1) * 7=k * 7+1+1+1+1+1+1+1 by omega,show k * 7+1+1+1+1+1+1+1+1=k * 7+1+1+1+1+1+1+1+1 by rfl]
      simp only [show ∀ j,k * 7+1+1+1+1+1+1+1+j=k * 7+j+1+1+1+1+1+1+1 from fun j=>by omega,List.getElem?_cons_succ]
      exact this
def InsAt (w:World) (bk o:Nat) (i:Ins):Prop :=
  w.cell? ⟨bk,o,none⟩=some (.int .i64 i.op)∧w.cell? ⟨bk,o+1,none⟩=some (.int .i64 i.n)∧w.cell? ⟨bk,o+2,none⟩=some (.string i.t)∧w.cell? ⟨bk,o+3,none⟩=some (.bool i.b)∧w.cell? ⟨bk,o+4,none⟩=some (.string i.c)∧w.cell? ⟨bk,o+5,none⟩=some (.string i.m)∧w.cell? ⟨bk,o+6,none⟩=some (.string i.d)
theorem InsAt.keep {w w':World} {N bk o:Nat} {i:Ins} (h:InsAt w bk o i) (hb:Below N w w') (hlt:bk<N):InsAt w' bk o i :=
  ⟨(hb.cell hlt).trans h.1,(hb.cell hlt).trans h.2.1,(hb.cell hlt).trans h.2.2.1,(hb.cell hlt).trans h.2.2.2.1,(hb.cell hlt).trans h.2.2.2.2.1,(hb.cell hlt).trans h.2.2.2.2.2.1,(hb.cell hlt).trans h.2.2.2.2.2.2⟩
def IsInss (w:World) (v:Value) (l:List Ins):Prop :=
  ∃ ao cap,v=.slice ao l.length cap∧l.length≤cap∧cap≤maxLen ∧
    (l≠[]→∃ bk o,ao=some ⟨bk,o,none⟩∧bk<w.heap.size∧∀ k i,l[k]?=some i→InsAt w bk (o+k * 7) i)
theorem IsInss.keep {w w':World} {v:Value} {l:List Ins} (h:IsInss w v l) (hb:Below w.heap.size w w'):IsInss w' v l:=by
  obtain ⟨ao,cap,rfl,h1,h2,h3⟩:=h
  refine ⟨ao,cap,rfl,h1,h2,fun hne=>?_⟩
  obtain ⟨bk,o,e,hlt,hc⟩:=h3 hne
  exact ⟨bk,o,e,Nat.lt_of_lt_of_le hlt hb.size,fun k i hk=>(hc k i hk).keep hb hlt⟩
def sameI (a b:Ins):Bool:=(a.op == b.op)&&(a.n == b.n)&&(a.t.toList == b.t.toList)&&sameRefB a.b a.c a.m a.d b.b b.c b.m b.d
def ickI (i:Ins):Int:=ickE i.op i.n i.t i.b i.c i.m i.d
def badI (locals len:Int) (i:Ins):Bool:=(ickI i != 0)||((opdI i.op == 2)&&decide (locals≤i.n))||((opdI i.op == 3)&&decide (len≤i.n))
def allE (l:List Ins) (locals:Int):Int:=if l.length<1∨200<l.length then 1 else if l.any (badI locals l.length) then 1 else 0
def InsOK (i:Ins):Prop:=i.t.size≤maxLen∧i.c.size≤maxLen∧i.m.size≤maxLen∧i.d.size≤maxLen
theorem any_at {l:List Ins} {p:Ins→Bool} (k:Nat) (x:Ins) (h:l[k]?=some x):(l.drop k).any p=(p x||(l.drop (k+1)).any p):=by
  obtain ⟨h1,h2⟩:=List.getElem?_eq_some_iff.1 h
  rw [List.drop_eq_getElem_cons h1,h2,List.any_cons]
theorem ick_01 (op n:Int) (t:ByteArray) (b:Bool) (c m d:ByteArray):ickE op n t b c m d=0∨ickE op n t b c m d=1:=by
  unfold ickE;split <;> simp
end Go.Proofs.YtjlfnelihbdhjaaGreat
