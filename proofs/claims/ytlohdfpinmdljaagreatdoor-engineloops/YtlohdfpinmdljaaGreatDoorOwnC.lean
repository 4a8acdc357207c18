import Derived.Test.YtlohdfpinmdljaaGreatDoorRefDesc
import Derived.Test.YtlohdfpinmdljaaGreatDoorTyC
import Derived.Lib.ItoaNum
import Derived.Lib.ItoaLen
import Derived.Laws.IdiomStrings
import Derived.Deep.RegionWith
import Derived.Deep.QuietTactic
import Derived.BigQuiet
set_option maxRecDepth 100000
namespace Go.Proofs.YtlohdfpinmdljaaGreatDoor
open Go.RowKit
def opdTab:List Int:=[-1,1,2,2,2,2,0,0,0,0,0,3,3,3,3,3,3,3,3,0,0,0,4,6,7,0,0,0,0,0,5,5,8,8,8,8,0,0,0,0,0]
def opdI (op:Int):Int:=if op<1∨40<op then -1 else opdTab.getD op.toNat 0
theorem dec_small {u:Nat} (h:u<10):Lib.decDigits u=[UInt8.ofNat (48+u)]:=by rw [Lib.decDigits,dif_pos h]
theorem dec_big {u:Nat} (h:¬ u<10):Lib.decDigits u=Lib.decDigits (u / 10)++[UInt8.ofNat (48+u % 10)]:=by rw [Lib.decDigits,dif_neg h]
def decInv (u v:Nat) (l:List UInt8):Prop:=if v=0 then Lib.decDigits u=l else Lib.decDigits u=Lib.decDigits v++l
theorem decInv_step {u v:Nat} {l:List UInt8} (hv:v≠0) (h:decInv u v l):decInv u (v / 10) (UInt8.ofNat (48+v % 10)::l):=by
  unfold decInv at *
  rw [if_neg hv] at h
  by_cases h10:v<10
  · have e0:v / 10=0:=by omega
    have e1:v % 10=v:=by omega
    rw [if_pos e0,h,dec_small h10,e1];rfl
  · have e0:v / 10≠0:=by omega
    rw [if_neg e0,h,dec_big h10]
    simp
theorem decInv_len {u v:Nat} {l:List UInt8} (h:decInv u v l) (hu:u<18446744073709551616):l.length≤20:=by
  have h1:=Lib.nDigits_le20 u hu
  have h2:=Lib.decDigits_length u
  unfold decInv at h
  split at h
  · rw [h] at h2;omega
  · rw [h,List.length_append] at h2;omega
def noRefB (b:Bool) (c n d:ByteArray):Bool:=!b&&c.toList.isEmpty&&n.toList.isEmpty&&d.toList.isEmpty
def sameRefB (b1:Bool) (c1 n1 d1:ByteArray) (b2:Bool) (c2 n2 d2:ByteArray):Bool:=(b1 == b2)&&(c1.toList == c2.toList)&&(n1.toList == n2.toList)&&(d1.toList == d2.toList)
def rckB (c n d:List UInt8):Bool:=(prfE c == 0)&&memberL n&&(pdE d == 0)
def rckE (c n d:List UInt8):Int:=if rckB c n d then 0 else 1
theorem opd_cases (op:Int):opdI op=-1∨opdI op=0∨opdI op=1∨opdI op=2∨opdI op=3∨opdI op=4∨opdI op=5∨opdI op=6∨opdI op=7∨opdI op=8:=by
  by_cases h:op<1∨40<op
  · left;rw [opdI,if_pos h]
  · have hx:∀ k:Fin 41,(opdTab.getD k.1 0=-1∨opdTab.getD k.1 0=0∨opdTab.getD k.1 0=1∨opdTab.getD k.1 0=2∨opdTab.getD k.1 0=3∨opdTab.getD k.1 0=4∨opdTab.getD k.1 0=5∨opdTab.getD k.1 0=6∨opdTab.getD k.1 0=7∨opdTab.getD k.1 0=8):=by decide
    have:=hx ⟨op.toNat,by omega⟩
    rw [opdI,if_neg h]
    exact this
def insB (k n:Int) (te:Bool) (t:List UInt8) (z r:Bool):Bool :=
  if k=0 then z&&(n == 0)&&te
  else if k=1 then z&&te&&decide (-2147483648≤n)&&decide (n≤2147483647)
  else if k=2 then z&&te&&decide (0≤n)&&decide (n<40)
  else if k=3 then z&&te&&decide (0≤n)&&decide (n<200)
  else if k=4 then z&&(n == 0)&&validL t
  else if k=5 then z&&(n == 0)&&(prfE t == 0)
  else if k=6 then z&&(n == 0)&&(parE t == 0)&&decide ((parT t).1<255)
  else if k=7 then z&&(prfE t == 0)&&decide (1≤n)&&decide (n≤(prfT t).1)
  else if k=8 then (n == 0)&&te&&r
  else false
def ickE (op n:Int) (t:ByteArray) (b:Bool) (c m d:ByteArray):Int:=if insB (opdI op) n t.toList.isEmpty t.data.toList (noRefB b c m d) (rckB c.data.toList m.data.toList d.data.toList) then 0 else 1
structure Ins where
  op:Int
  n:Int
  t:ByteArray
  b:Bool
  c:ByteArray
  m:ByteArray
  d:ByteArray
def insC (i:Ins):List Value:=[.int .i64 i.op,.int .i64 i.n,.string i.t,.bool i.b,.string i.c,.string i.m,.string i.d]
def insV (i:Ins):Value:=.agg (insC i).toArray
def flatI (l:List Ins):List Value:=l.flatMap insC
theorem flatI_length (l:List Ins):(flatI l).length=l.length * 7:=by
  induction l with
  | nil=>rfl
  | cons t ts ih=>simp only [flatI,List.flatMap_cons,List.length_append,insC] at *;rw [ih];simp;omega
theorem flatI_at (l:List Ins) (k:Nat) (i:Ins) (h:l[k]?=some i):(flatI l)[k * 7]?=some (.int .i64 i.op)∧(flatI l)[k * 7+1]?=some (.int .i64 i.n)∧(flatI l)[k * 7+2]?=some (.string i.t)∧(flatI l)[k * 7+3]?=some (.bool i.b)∧(flatI l)[k * 7+4]?=some (.string i.c)∧(flatI l)[k * 7+5]?=some (.string i.m)∧(flatI l)[k * 7+6]?=some (.string i.d):=by
  induction l generalizing k with
  | nil=>simp at h
  | cons u ts ih =>
    have e:flatI (u::ts)=.int .i64 u.op::.int .i64 u.n::.string u.t::.bool u.b::.string u.c::.string u.m::.string u.d::flatI ts:=by simp [flatI,insC]
    rw [e]
    cases k with
    | zero=>simp at h;subst h;exact ⟨rfl,rfl,rfl,rfl,rfl,rfl,rfl⟩
    | succ k =>
      simp at h
      have:=ih k h
      rw [show (k+1) * 7=k * 7+1+1+1+1+1+1+1 by omega,show k * 7+1+1+1+1+1+1+1+1=k * 7+1+1+1+1+1+1+1+1 by rfl]
      simp only [show ∀ j,k * 7+1+1+1+1+1+1+1+j=k * 7+j+1+1+1+1+1+1+1 from fun j=>by omega,List.getElem?_cons_succ]
      exact this
def InsAt (w:World) (bk o:Nat) (i:Ins):Prop :=
  w.cell? ⟨bk,o,none⟩=some (.int .i64 i.op)∧w.cell? ⟨bk,o+1,none⟩=some (.int .i64 i.n)∧w.cell? ⟨bk,o+2,none⟩=some (.string i.t)∧w.cell? ⟨bk,o+3,none⟩=some (.bool i.b)∧w.cell? ⟨bk,o+4,none⟩=some (.string i.c)∧w.cell? ⟨bk,o+5,none⟩=some (.string i.m)∧w.cell? ⟨bk,o+6,none⟩=some (.string i.d)
theorem InsAt.keep {w w':World} {N bk o:Nat} {i:Ins} (h:InsAt w bk o i) (hb:Below N w w') (hlt:bk<N):InsAt w' bk o i :=
  ⟨(hb.cell hlt).trans h.1,(hb.cell hlt).trans h.2.1,(hb.cell hlt).trans h.2.2.1,(hb.cell hlt).trans h.2.2.2.1,(hb.cell hlt).trans h.2.2.2.2.1,(hb.cell hlt).trans h.2.2.2.2.2.1,(hb.cell hlt).trans h.2.2.2.2.2.2⟩
def IsInss (w:World) (v:Value) (l:List Ins):Prop :=
  ∃ ao cap,v=.slice ao l.length cap∧l.length≤cap∧cap≤maxLen ∧
    (l≠[]→∃ bk o,ao=some ⟨bk,o,none⟩∧bk<w.heap.size∧∀ k i,l[k]?=some i→InsAt w bk (o+k * 7) i)
theorem IsInss.keep {w w':World} {v:Value} {l:List Ins} (h:IsInss w v l) (hb:Below w.heap.size w w'):IsInss w' v l:=by
  obtain ⟨ao,cap,rfl,h1,h2,h3⟩:=h
  refine ⟨ao,cap,rfl,h1,h2,fun hne=>?_⟩
  obtain ⟨bk,o,e,hlt,hc⟩:=h3 hne
  exact ⟨bk,o,e,Nat.lt_of_lt_of_le hlt hb.size,fun k i hk=>(hc k i hk).keep hb hlt⟩
def sameI (a b:Ins):Bool:=(a.op == b.op)&&(a.n == b.n)&&(a.t.toList == b.t.toList)&&sameRefB a.b a.c a.m a.d b.b b.c b.m b.d
def ickI (i:Ins):Int:=ickE i.op i.n i.t i.b i.c i.m i.d
def badI (locals len:Int) (i:Ins):Bool:=(ickI i != 0)||((opdI i.op == 2)&&decide (locals≤i.n))||((opdI i.op == 3)&&decide (len≤i.n))
def allE (l:List Ins) (locals:Int):Int:=if l.length<1∨200<l.length then 1 else if l.any (badI locals l.length) then 1 else 0
def InsOK (i:Ins):Prop:=i.t.size≤maxLen∧i.c.size≤maxLen∧i.m.size≤maxLen∧i.d.size≤maxLen
theorem any_at {l:List Ins} {p:Ins→Bool} (k:Nat) (x:Ins) (h:l[k]?=some x):(l.drop k).any p=(p x||(l.drop (k+1)).any p):=by
  obtain ⟨h1,h2⟩:=List.getElem?_eq_some_iff.1 h
  rw [List.drop_eq_getElem_cons h1,h2,List.any_cons]
theorem ick_01 (op n:Int) (t:ByteArray) (b:Bool) (c m d:ByteArray):ickE op n t b c m d=0∨ickE op n t b c m d=1:=by
  unfold ickE;split <;> simp
def opB (op:Int):Bool:=decide (0<op)&&decide (op<41)
set_option maxHeartbeats 1000000 in
theorem isOp_any (op:Int) (r:Bool) (hr:opB op=r) (w:World):Calls Tryz.prog 372 #[.int .i64 op] w fun e w'=>e=.returned (.bool r)∧w'=w:=by
  have HR:Hid (r=(decide (0<op)&&decide (op<41))):=hr.symm
  clear hr
  go_enter Tryz.func372,Tryz.ntmps372
  go_wp2
  all_goals
    go_ret
    exact ⟨ret_bool (by rw [HR.out];first|(simp [*];done)|(simp [*];omega)),rfl⟩
set_option maxHeartbeats 8000000 in
theorem operand_any (op:Int) (w:World):Calls Tryz.prog 337 #[.int .i64 op] w fun e w'=>e=.returned (.int .i64 (opdI op))∧w'=w:=by
  by_cases h:op<1∨40<op
  · have HO:Hid (opdI op=-1):=by rw [Hid,opdI,if_pos h]
    have HB:Hid (∀ w,_):=isOp_any op false (by unfold opB;rw [Bool.and_eq_false_iff];rcases h with h|h;exact .inl (decide_eq_false (by omega));exact .inr (decide_eq_false (by omega)))
    have hk:∀ k:Int,1≤k→k≤40→(op == k)=false:=fun k h1 h2=>by rw [beq_eq_false_iff_ne];omega
    have e1:=hk 1 (by omega) (by omega);have e2:=hk 2 (by omega) (by omega);have e3:=hk 3 (by omega) (by omega);have e4:=hk 4 (by omega) (by omega);have e5:=hk 5 (by omega) (by omega);have e11:=hk 11 (by omega) (by omega);have e12:=hk 12 (by omega) (by omega);have e13:=hk 13 (by omega) (by omega);have e14:=hk 14 (by omega) (by omega);have e15:=hk 15 (by omega) (by omega);have e16:=hk 16 (by omega) (by omega);have e17:=hk 17 (by omega) (by omega);have e18:=hk 18 (by omega) (by omega);have e22:=hk 22 (by omega) (by omega);have e30:=hk 30 (by omega) (by omega);have e31:=hk 31 (by omega) (by omega);have e23:=hk 23 (by omega) (by omega);have e24:=hk 24 (by omega) (by omega);have e32:=hk 32 (by omega) (by omega);have e33:=hk 33 (by omega) (by omega);have e34:=hk 34 (by omega) (by omega);have e35:=hk 35 (by omega) (by omega)
    clear hk h
    go_enter Tryz.func337,Tryz.ntmps337
    go_wp2_with (go_at_call 372;refine ((HB.out) _).mono ?_;rintro e w1 ⟨rfl,hw1⟩;rw [hw1])
    go_ret
    exact ⟨ret_int HO.out.symm,rfl⟩
  · obtain ⟨k,rfl⟩:∃ k:Nat,op=k:=⟨op.toNat,by omega⟩
    have hk:k=1∨k=2∨k=3∨k=4∨k=5∨k=6∨k=7∨k=8∨k=9∨k=10∨k=11∨k=12∨k=13∨k=14∨k=15∨k=16∨k=17∨k=18∨k=19∨k=20∨k=21∨k=22∨k=23∨k=24∨k=25∨k=26∨k=27∨k=28∨k=29∨k=30∨k=31∨k=32∨k=33∨k=34∨k=35∨k=36∨k=37∨k=38∨k=39∨k=40:=by omega
    clear h
    rcases hk with rfl|rfl|rfl|rfl|rfl|rfl|rfl|rfl|rfl|rfl|rfl|rfl|rfl|rfl|rfl|rfl|rfl|rfl|rfl|rfl|rfl|rfl|rfl|rfl|rfl|rfl|rfl|rfl|rfl|rfl|rfl|rfl|rfl|rfl|rfl|rfl|rfl|rfl|rfl|rfl
    all_goals
      go_enter Tryz.func337,Tryz.ntmps337
      go_wp2_with (go_at_call 372;refine (isOp_any _ true (by decide) _).mono ?_;rintro e w1 ⟨rfl,hw1⟩;rw [hw1])
      go_ret
      exact ⟨rfl,rfl⟩
def inB (n l h:Int):Bool:=decide (l≤n)&&decide (n≤h)
set_option maxHeartbeats 1000000 in
theorem isWithin_any (n l h:Int) (w:World):Calls Tryz.prog 371 #[.int .i64 n,.int .i64 l,.int .i64 h] w fun e w'=>e=.returned (.bool (inB n l h))∧w'=w:=by
  have HR:Hid (inB n l h=(decide (l≤n)&&decide (n≤h))):=rfl
  generalize inB n l h=r at *
  go_enter Tryz.func371,Tryz.ntmps371
  go_wp2
  all_goals
    go_ret
    exact ⟨ret_bool (by rw [HR.out];first|(simp [*];done)|(simp [*];omega)),rfl⟩
def fmB (k n locals size:Int):Bool:=if k=2 then decide (n<locals) else if k=3 then decide (n<size) else true
def ownI (i:Ins):Ins :=
  if opdI i.op=1∨opdI i.op=2∨opdI i.op=3 then ⟨i.op,i.n,⟨#[]⟩,false,⟨#[]⟩,⟨#[]⟩,⟨#[]⟩⟩
  else if opdI i.op=4∨opdI i.op=5∨opdI i.op=6 then ⟨i.op,0,i.t,false,⟨#[]⟩,⟨#[]⟩,⟨#[]⟩⟩
  else if opdI i.op=7 then ⟨i.op,i.n,i.t,false,⟨#[]⟩,⟨#[]⟩,⟨#[]⟩⟩
  else if opdI i.op=8 then ⟨i.op,0,⟨#[]⟩,i.b,i.c,i.m,i.d⟩
  else ⟨i.op,0,⟨#[]⟩,false,⟨#[]⟩,⟨#[]⟩,⟨#[]⟩⟩
set_option maxHeartbeats 4000000 in
theorem ownParts_none (op n:Int) (hk:opdI op=-1) (t:ByteArray) (b:Bool) (c m d:ByteArray) (w:World):Calls Tryz.prog 335 #[.agg #[.int .i64 op,.int .i64 n,.string t,.bool b,.string c,.string m,.string d]] w fun e w'=>e=.returned (insV (ownI ⟨op,n,t,b,c,m,d⟩))∧Below w.heap.size w w':=by
  have HO:=operand_any op
  rw [hk] at HO
  have HO:Hid (∀ w,_):=HO
  have HR:insV (ownI ⟨op,n,t,b,c,m,d⟩)=.agg #[.int .i64 op,.int .i64 0,.string ⟨#[]⟩,.bool false,.string ⟨#[]⟩,.string ⟨#[]⟩,.string ⟨#[]⟩]:=by unfold ownI;simp only [hk];rfl
  rw [HR]
  clear hk HR
  go_enter Tryz.func335,Tryz.ntmps335
  go_wp2_with (go_at_call 337;refine ((HO.out) _).mono ?_;rintro e w0 ⟨rfl,hw0⟩;rw [hw0];clear hw0 HO)
  refine bodyPost_ret (v:=.agg #[.int .i64 op,.int .i64 0,.string ⟨#[]⟩,.bool false,.string ⟨#[]⟩,.string ⟨#[]⟩,.string ⟨#[]⟩]) (by simp [results,Tryz.results335,go_sem, *]) rfl ⟨rfl,?_⟩
  exact ((Below.refl _ _).alloc (Nat.le_refl _) _).alloc (by simp) _
set_option maxHeartbeats 4000000 in
theorem fitsMethod_none (op n locals size:Int) (hk:opdI op=-1) (t:ByteArray) (b:Bool) (c m d:ByteArray) (w:World):Calls Tryz.prog 301 #[.agg #[.int .i64 op,.int .i64 n,.string t,.bool b,.string c,.string m,.string d],.int .i64 locals,.int .i64 size] w fun e w'=>e=.returned (.bool (fmB (opdI op) n locals size))∧Below w.heap.size w w':=by
  have HO:=operand_any op
  rw [hk] at HO
  have HO:Hid (∀ w,_):=HO
  have HR:fmB (opdI op) n locals size=true:=by rw [hk];rfl
  rw [HR]
  clear hk HR
  go_enter Tryz.func301,Tryz.ntmps301
  go_wp2_with (go_at_call 337;refine ((HO.out) _).mono ?_;rintro e w0 ⟨rfl,hw0⟩;rw [hw0];clear hw0 HO)
  go_ret
  exact ⟨ret_bool rfl,(Below.refl _ _).alloc (Nat.le_refl _) _⟩
set_option maxHeartbeats 4000000 in
theorem ownParts_0 (op n:Int) (hk:opdI op=0) (t:ByteArray) (b:Bool) (c m d:ByteArray) (w:World):Calls Tryz.prog 335 #[.agg #[.int .i64 op,.int .i64 n,.string t,.bool b,.string c,.string m,.string d]] w fun e w'=>e=.returned (insV (ownI ⟨op,n,t,b,c,m,d⟩))∧Below w.heap.size w w':=by
  have HO:=operand_any op
  rw [hk] at HO
  have HO:Hid (∀ w,_):=HO
  have HR:insV (ownI ⟨op,n,t,b,c,m,d⟩)=.agg #[.int .i64 op,.int .i64 0,.string ⟨#[]⟩,.bool false,.string ⟨#[]⟩,.string ⟨#[]⟩,.string ⟨#[]⟩]:=by unfold ownI;simp only [hk];rfl
  rw [HR]
  clear hk HR
  go_enter Tryz.func335,Tryz.ntmps335
  go_wp2_with (go_at_call 337;refine ((HO.out) _).mono ?_;rintro e w0 ⟨rfl,hw0⟩;rw [hw0];clear hw0 HO)
  refine bodyPost_ret (v:=.agg #[.int .i64 op,.int .i64 0,.string ⟨#[]⟩,.bool false,.string ⟨#[]⟩,.string ⟨#[]⟩,.string ⟨#[]⟩]) (by simp [results,Tryz.results335,go_sem, *]) rfl ⟨rfl,?_⟩
  exact ((Below.refl _ _).alloc (Nat.le_refl _) _).alloc (by simp) _
set_option maxHeartbeats 4000000 in
theorem fitsMethod_0 (op n locals size:Int) (hk:opdI op=0) (t:ByteArray) (b:Bool) (c m d:ByteArray) (w:World):Calls Tryz.prog 301 #[.agg #[.int .i64 op,.int .i64 n,.string t,.bool b,.string c,.string m,.string d],.int .i64 locals,.int .i64 size] w fun e w'=>e=.returned (.bool (fmB (opdI op) n locals size))∧Below w.heap.size w w':=by
  have HO:=operand_any op
  rw [hk] at HO
  have HO:Hid (∀ w,_):=HO
  have HR:fmB (opdI op) n locals size=true:=by rw [hk];rfl
  rw [HR]
  clear hk HR
  go_enter Tryz.func301,Tryz.ntmps301
  go_wp2_with (go_at_call 337;refine ((HO.out) _).mono ?_;rintro e w0 ⟨rfl,hw0⟩;rw [hw0];clear hw0 HO)
  go_ret
  exact ⟨ret_bool rfl,(Below.refl _ _).alloc (Nat.le_refl _) _⟩
set_option maxHeartbeats 4000000 in
theorem ownParts_1 (op n:Int) (hk:opdI op=1) (t:ByteArray) (b:Bool) (c m d:ByteArray) (w:World):Calls Tryz.prog 335 #[.agg #[.int .i64 op,.int .i64 n,.string t,.bool b,.string c,.string m,.string d]] w fun e w'=>e=.returned (insV (ownI ⟨op,n,t,b,c,m,d⟩))∧Below w.heap.size w w':=by
  have HO:=operand_any op
  rw [hk] at HO
  have HO:Hid (∀ w,_):=HO
  have HR:insV (ownI ⟨op,n,t,b,c,m,d⟩)=.agg #[.int .i64 op,.int .i64 n,.string ⟨#[]⟩,.bool false,.string ⟨#[]⟩,.string ⟨#[]⟩,.string ⟨#[]⟩]:=by unfold ownI;simp only [hk];rfl
  rw [HR]
  clear hk HR
  go_enter Tryz.func335,Tryz.ntmps335
  go_wp2_with (go_at_call 337;refine ((HO.out) _).mono ?_;rintro e w0 ⟨rfl,hw0⟩;rw [hw0];clear hw0 HO)
  refine bodyPost_ret (v:=.agg #[.int .i64 op,.int .i64 n,.string ⟨#[]⟩,.bool false,.string ⟨#[]⟩,.string ⟨#[]⟩,.string ⟨#[]⟩]) (by simp [results,Tryz.results335,go_sem, *]) rfl ⟨rfl,?_⟩
  exact ((Below.refl _ _).alloc (Nat.le_refl _) _).alloc (by simp) _
set_option maxHeartbeats 4000000 in
theorem fitsMethod_1 (op n locals size:Int) (hk:opdI op=1) (t:ByteArray) (b:Bool) (c m d:ByteArray) (w:World):Calls Tryz.prog 301 #[.agg #[.int .i64 op,.int .i64 n,.string t,.bool b,.string c,.string m,.string d],.int .i64 locals,.int .i64 size] w fun e w'=>e=.returned (.bool (fmB (opdI op) n locals size))∧Below w.heap.size w w':=by
  have HO:=operand_any op
  rw [hk] at HO
  have HO:Hid (∀ w,_):=HO
  have HR:fmB (opdI op) n locals size=true:=by rw [hk];rfl
  rw [HR]
  clear hk HR
  go_enter Tryz.func301,Tryz.ntmps301
  go_wp2_with (go_at_call 337;refine ((HO.out) _).mono ?_;rintro e w0 ⟨rfl,hw0⟩;rw [hw0];clear hw0 HO)
  go_ret
  exact ⟨ret_bool rfl,(Below.refl _ _).alloc (Nat.le_refl _) _⟩
set_option maxHeartbeats 4000000 in
theorem ownParts_2 (op n:Int) (hk:opdI op=2) (t:ByteArray) (b:Bool) (c m d:ByteArray) (w:World):Calls Tryz.prog 335 #[.agg #[.int .i64 op,.int .i64 n,.string t,.bool b,.string c,.string m,.string d]] w fun e w'=>e=.returned (insV (ownI ⟨op,n,t,b,c,m,d⟩))∧Below w.heap.size w w':=by
  have HO:=operand_any op
  rw [hk] at HO
  have HO:Hid (∀ w,_):=HO
  have HR:insV (ownI ⟨op,n,t,b,c,m,d⟩)=.agg #[.int .i64 op,.int .i64 n,.string ⟨#[]⟩,.bool false,.string ⟨#[]⟩,.string ⟨#[]⟩,.string ⟨#[]⟩]:=by unfold ownI;simp only [hk];rfl
  rw [HR]
  clear hk HR
  go_enter Tryz.func335,Tryz.ntmps335
  go_wp2_with (go_at_call 337;refine ((HO.out) _).mono ?_;rintro e w0 ⟨rfl,hw0⟩;rw [hw0];clear hw0 HO)
  refine bodyPost_ret (v:=.agg #[.int .i64 op,.int .i64 n,.string ⟨#[]⟩,.bool false,.string ⟨#[]⟩,.string ⟨#[]⟩,.string ⟨#[]⟩]) (by simp [results,Tryz.results335,go_sem, *]) rfl ⟨rfl,?_⟩
  exact ((Below.refl _ _).alloc (Nat.le_refl _) _).alloc (by simp) _
set_option maxHeartbeats 4000000 in
theorem fitsMethod_2 (op n locals size:Int) (hk:opdI op=2) (t:ByteArray) (b:Bool) (c m d:ByteArray) (w:World):Calls Tryz.prog 301 #[.agg #[.int .i64 op,.int .i64 n,.string t,.bool b,.string c,.string m,.string d],.int .i64 locals,.int .i64 size] w fun e w'=>e=.returned (.bool (fmB (opdI op) n locals size))∧Below w.heap.size w w':=by
  have HO:=operand_any op
  rw [hk] at HO
  have HO:Hid (∀ w,_):=HO
  have HR:fmB (opdI op) n locals size=decide (n<locals):=by rw [hk];rfl
  rw [HR]
  clear hk HR
  go_enter Tryz.func301,Tryz.ntmps301
  go_wp2_with (go_at_call 337;refine ((HO.out) _).mono ?_;rintro e w0 ⟨rfl,hw0⟩;rw [hw0];clear hw0 HO)
  go_ret
  exact ⟨ret_bool rfl,(Below.refl _ _).alloc (Nat.le_refl _) _⟩
set_option maxHeartbeats 4000000 in
theorem ownParts_3 (op n:Int) (hk:opdI op=3) (t:ByteArray) (b:Bool) (c m d:ByteArray) (w:World):Calls Tryz.prog 335 #[.agg #[.int .i64 op,.int .i64 n,.string t,.bool b,.string c,.string m,.string d]] w fun e w'=>e=.returned (insV (ownI ⟨op,n,t,b,c,m,d⟩))∧Below w.heap.size w w':=by
  have HO:=operand_any op
  rw [hk] at HO
  have HO:Hid (∀ w,_):=HO
  have HR:insV (ownI ⟨op,n,t,b,c,m,d⟩)=.agg #[.int .i64 op,.int .i64 n,.string ⟨#[]⟩,.bool false,.string ⟨#[]⟩,.string ⟨#[]⟩,.string ⟨#[]⟩]:=by unfold ownI;simp only [hk];rfl
  rw [HR]
  clear hk HR
  go_enter Tryz.func335,Tryz.ntmps335
  go_wp2_with (go_at_call 337;refine ((HO.out) _).mono ?_;rintro e w0 ⟨rfl,hw0⟩;rw [hw0];clear hw0 HO)
  refine bodyPost_ret (v:=.agg #[.int .i64 op,.int .i64 n,.string ⟨#[]⟩,.bool false,.string ⟨#[]⟩,.string ⟨#[]⟩,.string ⟨#[]⟩]) (by simp [results,Tryz.results335,go_sem, *]) rfl ⟨rfl,?_⟩
  exact ((Below.refl _ _).alloc (Nat.le_refl _) _).alloc (by simp) _
set_option maxHeartbeats 4000000 in
theorem fitsMethod_3 (op n locals size:Int) (hk:opdI op=3) (t:ByteArray) (b:Bool) (c m d:ByteArray) (w:World):Calls Tryz.prog 301 #[.agg #[.int .i64 op,.int .i64 n,.string t,.bool b,.string c,.string m,.string d],.int .i64 locals,.int .i64 size] w fun e w'=>e=.returned (.bool (fmB (opdI op) n locals size))∧Below w.heap.size w w':=by
  have HO:=operand_any op
  rw [hk] at HO
  have HO:Hid (∀ w,_):=HO
  have HR:fmB (opdI op) n locals size=decide (n<size):=by rw [hk];rfl
  rw [HR]
  clear hk HR
  go_enter Tryz.func301,Tryz.ntmps301
  go_wp2_with (go_at_call 337;refine ((HO.out) _).mono ?_;rintro e w0 ⟨rfl,hw0⟩;rw [hw0];clear hw0 HO)
  go_ret
  exact ⟨ret_bool rfl,(Below.refl _ _).alloc (Nat.le_refl _) _⟩
set_option maxHeartbeats 4000000 in
theorem ownParts_4 (op n:Int) (hk:opdI op=4) (t:ByteArray) (b:Bool) (c m d:ByteArray) (w:World):Calls Tryz.prog 335 #[.agg #[.int .i64 op,.int .i64 n,.string t,.bool b,.string c,.string m,.string d]] w fun e w'=>e=.returned (insV (ownI ⟨op,n,t,b,c,m,d⟩))∧Below w.heap.size w w':=by
  have HO:=operand_any op
  rw [hk] at HO
  have HO:Hid (∀ w,_):=HO
  have HR:insV (ownI ⟨op,n,t,b,c,m,d⟩)=.agg #[.int .i64 op,.int .i64 0,.string t,.bool false,.string ⟨#[]⟩,.string ⟨#[]⟩,.string ⟨#[]⟩]:=by unfold ownI;simp only [hk];rfl
  rw [HR]
  clear hk HR
  go_enter Tryz.func335,Tryz.ntmps335
  go_wp2_with (go_at_call 337;refine ((HO.out) _).mono ?_;rintro e w0 ⟨rfl,hw0⟩;rw [hw0];clear hw0 HO)
  refine bodyPost_ret (v:=.agg #[.int .i64 op,.int .i64 0,.string t,.bool false,.string ⟨#[]⟩,.string ⟨#[]⟩,.string ⟨#[]⟩]) (by simp [results,Tryz.results335,go_sem, *]) rfl ⟨rfl,?_⟩
  exact ((Below.refl _ _).alloc (Nat.le_refl _) _).alloc (by simp) _
set_option maxHeartbeats 4000000 in
theorem fitsMethod_4 (op n locals size:Int) (hk:opdI op=4) (t:ByteArray) (b:Bool) (c m d:ByteArray) (w:World):Calls Tryz.prog 301 #[.agg #[.int .i64 op,.int .i64 n,.string t,.bool b,.string c,.string m,.string d],.int .i64 locals,.int .i64 size] w fun e w'=>e=.returned (.bool (fmB (opdI op) n locals size))∧Below w.heap.size w w':=by
  have HO:=operand_any op
  rw [hk] at HO
  have HO:Hid (∀ w,_):=HO
  have HR:fmB (opdI op) n locals size=true:=by rw [hk];rfl
  rw [HR]
  clear hk HR
  go_enter Tryz.func301,Tryz.ntmps301
  go_wp2_with (go_at_call 337;refine ((HO.out) _).mono ?_;rintro e w0 ⟨rfl,hw0⟩;rw [hw0];clear hw0 HO)
  go_ret
  exact ⟨ret_bool rfl,(Below.refl _ _).alloc (Nat.le_refl _) _⟩
set_option maxHeartbeats 4000000 in
theorem ownParts_5 (op n:Int) (hk:opdI op=5) (t:ByteArray) (b:Bool) (c m d:ByteArray) (w:World):Calls Tryz.prog 335 #[.agg #[.int .i64 op,.int .i64 n,.string t,.bool b,.string c,.string m,.string d]] w fun e w'=>e=.returned (insV (ownI ⟨op,n,t,b,c,m,d⟩))∧Below w.heap.size w w':=by
  have HO:=operand_any op
  rw [hk] at HO
  have HO:Hid (∀ w,_):=HO
  have HR:insV (ownI ⟨op,n,t,b,c,m,d⟩)=.agg #[.int .i64 op,.int .i64 0,.string t,.bool false,.string ⟨#[]⟩,.string ⟨#[]⟩,.string ⟨#[]⟩]:=by unfold ownI;simp only [hk];rfl
  rw [HR]
  clear hk HR
  go_enter Tryz.func335,Tryz.ntmps335
  go_wp2_with (go_at_call 337;refine ((HO.out) _).mono ?_;rintro e w0 ⟨rfl,hw0⟩;rw [hw0];clear hw0 HO)
  refine bodyPost_ret (v:=.agg #[.int .i64 op,.int .i64 0,.string t,.bool false,.string ⟨#[]⟩,.string ⟨#[]⟩,.string ⟨#[]⟩]) (by simp [results,Tryz.results335,go_sem, *]) rfl ⟨rfl,?_⟩
  exact ((Below.refl _ _).alloc (Nat.le_refl _) _).alloc (by simp) _
set_option maxHeartbeats 4000000 in
theorem fitsMethod_5 (op n locals size:Int) (hk:opdI op=5) (t:ByteArray) (b:Bool) (c m d:ByteArray) (w:World):Calls Tryz.prog 301 #[.agg #[.int .i64 op,.int .i64 n,.string t,.bool b,.string c,.string m,.string d],.int .i64 locals,.int .i64 size] w fun e w'=>e=.returned (.bool (fmB (opdI op) n locals size))∧Below w.heap.size w w':=by
  have HO:=operand_any op
  rw [hk] at HO
  have HO:Hid (∀ w,_):=HO
  have HR:fmB (opdI op) n locals size=true:=by rw [hk];rfl
  rw [HR]
  clear hk HR
  go_enter Tryz.func301,Tryz.ntmps301
  go_wp2_with (go_at_call 337;refine ((HO.out) _).mono ?_;rintro e w0 ⟨rfl,hw0⟩;rw [hw0];clear hw0 HO)
  go_ret
  exact ⟨ret_bool rfl,(Below.refl _ _).alloc (Nat.le_refl _) _⟩
set_option maxHeartbeats 4000000 in
theorem ownParts_6 (op n:Int) (hk:opdI op=6) (t:ByteArray) (b:Bool) (c m d:ByteArray) (w:World):Calls Tryz.prog 335 #[.agg #[.int .i64 op,.int .i64 n,.string t,.bool b,.string c,.string m,.string d]] w fun e w'=>e=.returned (insV (ownI ⟨op,n,t,b,c,m,d⟩))∧Below w.heap.size w w':=by
  have HO:=operand_any op
  rw [hk] at HO
  have HO:Hid (∀ w,_):=HO
  have HR:insV (ownI ⟨op,n,t,b,c,m,d⟩)=.agg #[.int .i64 op,.int .i64 0,.string t,.bool false,.string ⟨#[]⟩,.string ⟨#[]⟩,.string ⟨#[]⟩]:=by unfold ownI;simp only [hk];rfl
  rw [HR]
  clear hk HR
  go_enter Tryz.func335,Tryz.ntmps335
  go_wp2_with (go_at_call 337;refine ((HO.out) _).mono ?_;rintro e w0 ⟨rfl,hw0⟩;rw [hw0];clear hw0 HO)
  refine bodyPost_ret (v:=.agg #[.int .i64 op,.int .i64 0,.string t,.bool false,.string ⟨#[]⟩,.string ⟨#[]⟩,.string ⟨#[]⟩]) (by simp [results,Tryz.results335,go_sem, *]) rfl ⟨rfl,?_⟩
  exact ((Below.refl _ _).alloc (Nat.le_refl _) _).alloc (by simp) _
set_option maxHeartbeats 4000000 in
theorem fitsMethod_6 (op n locals size:Int) (hk:opdI op=6) (t:ByteArray) (b:Bool) (c m d:ByteArray) (w:World):Calls Tryz.prog 301 #[.agg #[.int .i64 op,.int .i64 n,.string t,.bool b,.string c,.string m,.string d],.int .i64 locals,.int .i64 size] w fun e w'=>e=.returned (.bool (fmB (opdI op) n locals size))∧Below w.heap.size w w':=by
  have HO:=operand_any op
  rw [hk] at HO
  have HO:Hid (∀ w,_):=HO
  have HR:fmB (opdI op) n locals size=true:=by rw [hk];rfl
  rw [HR]
  clear hk HR
  go_enter Tryz.func301,Tryz.ntmps301
  go_wp2_with (go_at_call 337;refine ((HO.out) _).mono ?_;rintro e w0 ⟨rfl,hw0⟩;rw [hw0];clear hw0 HO)
  go_ret
  exact ⟨ret_bool rfl,(Below.refl _ _).alloc (Nat.le_refl _) _⟩
set_option maxHeartbeats 4000000 in
theorem ownParts_7 (op n:Int) (hk:opdI op=7) (t:ByteArray) (b:Bool) (c m d:ByteArray) (w:World):Calls Tryz.prog 335 #[.agg #[.int .i64 op,.int .i64 n,.string t,.bool b,.string c,.string m,.string d]] w fun e w'=>e=.returned (insV (ownI ⟨op,n,t,b,c,m,d⟩))∧Below w.heap.size w w':=by
  have HO:=operand_any op
  rw [hk] at HO
  have HO:Hid (∀ w,_):=HO
  have HR:insV (ownI ⟨op,n,t,b,c,m,d⟩)=.agg #[.int .i64 op,.int .i64 n,.string t,.bool false,.string ⟨#[]⟩,.string ⟨#[]⟩,.string ⟨#[]⟩]:=by unfold ownI;simp only [hk];rfl
  rw [HR]
  clear hk HR
  go_enter Tryz.func335,Tryz.ntmps335
  go_wp2_with (go_at_call 337;refine ((HO.out) _).mono ?_;rintro e w0 ⟨rfl,hw0⟩;rw [hw0];clear hw0 HO)
  refine bodyPost_ret (v:=.agg #[.int .i64 op,.int .i64 n,.string t,.bool false,.string ⟨#[]⟩,.string ⟨#[]⟩,.string ⟨#[]⟩]) (by simp [results,Tryz.results335,go_sem, *]) rfl ⟨rfl,?_⟩
  exact ((Below.refl _ _).alloc (Nat.le_refl _) _).alloc (by simp) _
set_option maxHeartbeats 4000000 in
theorem fitsMethod_7 (op n locals size:Int) (hk:opdI op=7) (t:ByteArray) (b:Bool) (c m d:ByteArray) (w:World):Calls Tryz.prog 301 #[.agg #[.int .i64 op,.int .i64 n,.string t,.bool b,.string c,.string m,.string d],.int .i64 locals,.int .i64 size] w fun e w'=>e=.returned (.bool (fmB (opdI op) n locals size))∧Below w.heap.size w w':=by
  have HO:=operand_any op
  rw [hk] at HO
  have HO:Hid (∀ w,_):=HO
  have HR:fmB (opdI op) n locals size=true:=by rw [hk];rfl
  rw [HR]
  clear hk HR
  go_enter Tryz.func301,Tryz.ntmps301
  go_wp2_with (go_at_call 337;refine ((HO.out) _).mono ?_;rintro e w0 ⟨rfl,hw0⟩;rw [hw0];clear hw0 HO)
  go_ret
  exact ⟨ret_bool rfl,(Below.refl _ _).alloc (Nat.le_refl _) _⟩
set_option maxHeartbeats 4000000 in
theorem ownParts_8 (op n:Int) (hk:opdI op=8) (t:ByteArray) (b:Bool) (c m d:ByteArray) (w:World):Calls Tryz.prog 335 #[.agg #[.int .i64 op,.int .i64 n,.string t,.bool b,.string c,.string m,.string d]] w fun e w'=>e=.returned (insV (ownI ⟨op,n,t,b,c,m,d⟩))∧Below w.heap.size w w':=by
  have HO:=operand_any op
  rw [hk] at HO
  have HO:Hid (∀ w,_):=HO
  have HR:insV (ownI ⟨op,n,t,b,c,m,d⟩)=.agg #[.int .i64 op,.int .i64 0,.string ⟨#[]⟩,.bool b,.string c,.string m,.string d]:=by unfold ownI;simp only [hk];rfl
  rw [HR]
  clear hk HR
  go_enter Tryz.func335,Tryz.ntmps335
  go_wp2_with (go_at_call 337;refine ((HO.out) _).mono ?_;rintro e w0 ⟨rfl,hw0⟩;rw [hw0];clear hw0 HO)
  refine bodyPost_ret (v:=.agg #[.int .i64 op,.int .i64 0,.string ⟨#[]⟩,.bool b,.string c,.string m,.string d]) (by simp [results,Tryz.results335,go_sem, *]) rfl ⟨rfl,?_⟩
  exact ((Below.refl _ _).alloc (Nat.le_refl _) _).alloc (by simp) _
set_option maxHeartbeats 4000000 in
theorem fitsMethod_8 (op n locals size:Int) (hk:opdI op=8) (t:ByteArray) (b:Bool) (c m d:ByteArray) (w:World):Calls Tryz.prog 301 #[.agg #[.int .i64 op,.int .i64 n,.string t,.bool b,.string c,.string m,.string d],.int .i64 locals,.int .i64 size] w fun e w'=>e=.returned (.bool (fmB (opdI op) n locals size))∧Below w.heap.size w w':=by
  have HO:=operand_any op
  rw [hk] at HO
  have HO:Hid (∀ w,_):=HO
  have HR:fmB (opdI op) n locals size=true:=by rw [hk];rfl
  rw [HR]
  clear hk HR
  go_enter Tryz.func301,Tryz.ntmps301
  go_wp2_with (go_at_call 337;refine ((HO.out) _).mono ?_;rintro e w0 ⟨rfl,hw0⟩;rw [hw0];clear hw0 HO)
  go_ret
  exact ⟨ret_bool rfl,(Below.refl _ _).alloc (Nat.le_refl _) _⟩
set_option maxHeartbeats 2000000 in
theorem refCheck_any (b:Bool) (c n d:ByteArray) (hc:c.size≤maxLen) (hn:n.size≤maxLen) (hd:d.size≤maxLen) (w:World):Calls Tryz.prog 17 #[.agg #[.bool b,.string c,.string n,.string d]] w fun e w'=>e=.returned (.int .i64 (rckE c.data.toList n.data.toList d.data.toList))∧Below w.heap.size w w':=by
  have HP:Hid (∀ w,_):=parseRef_any c hc
  have HM:Hid (∀ w,_):=member_any n hn
  have HD:Hid (∀ w,_):=parseDesc_any d hd
  have HR:Hid (rckE c.data.toList n.data.toList d.data.toList=if ((prfE c.data.toList == 0)&&memberL n.data.toList&&(pdE d.data.toList == 0)) then 0 else 1):=rfl
  clear hc hn hd
  unfold DOut at HD
  generalize rckE c.data.toList n.data.toList d.data.toList=z at *
  generalize prfE c.data.toList=pc at *
  generalize prfT c.data.toList=pt at *
  generalize memberL n.data.toList=mm at *
  generalize pdE d.data.toList=pd at *
  generalize pdD d.data.toList=dd at *
  obtain ⟨qc,hqc⟩:∃ q,(pc == 0)=q:=⟨_,rfl⟩
  obtain ⟨qd,hqd⟩:∃ q,(pd == 0)=q:=⟨_,rfl⟩
  have hqc2:(pc != 0)=!qc:=by rw [bne,hqc]
  have hqd2:(pd != 0)=!qd:=by rw [bne,hqd]
  rw [hqc,hqd] at HR
  cases qc <;> cases mm <;> cases qd
  all_goals go_enter Tryz.func17,Tryz.ntmps17
  all_goals go_wp2_with (first
    | (go_at_call 35;refine ((HP.out) _).mono ?_;rintro e w1 ⟨rfl,hb1⟩;have hs1:w.heap.size<w1.heap.size:=(by have:=hb1.size;simp at this;omega);have hB1:Hid (Below w.heap.size w w1):=Below.step ((Below.refl _ _).alloc (Nat.le_refl _) _) hb1;have hc12:w1.cell? ⟨w.heap.size,2,none⟩=some (.string n):=(hb1.cell (p:=⟨w.heap.size,2,none⟩) (by first|(simp [*];done)|(simp;omega))).trans (by simp [go_sem, *]);have hc13:w1.cell? ⟨w.heap.size,3,none⟩=some (.string d):=(hb1.cell (p:=⟨w.heap.size,3,none⟩) (by first|(simp [*];done)|(simp;omega))).trans (by simp [go_sem, *]);clear hb1 HP)
    | (go_at_call 18;refine ((HD.out) _).mono ?_;rintro e w2 ⟨v,rfl,ho2,hb2⟩;obtain ⟨v1,v2,rfl⟩:=own_slice ho2;clear ho2 HD;have hs2:w.heap.size<w2.heap.size:=(by have:=hb2.size;simp at this;omega);have hB2:Hid (Below w.heap.size w w2):=Below.step (hB1.out.alloc hB1.out.size _) hb2;have hc22:w2.cell? ⟨w.heap.size,2,none⟩=some (.string n):=(hb2.cell (p:=⟨w.heap.size,2,none⟩) (by first|(simp [*];done)|(simp;omega))).trans (by simp [go_sem, *]);clear hb2)
    | (go_at_call 36;refine ((HM.out) _).mono ?_;rintro e w3 ⟨rfl,hw3⟩;rw [hw3];clear hw3 HM))
  all_goals
    go_ret
    exact ⟨ret_int (by rw [HR.out];rfl),hB2.out.alloc hB2.out.size _⟩
def fitB (k n:Int) (t:List UInt8) (r:Bool):Bool :=
  if k=0 then true
  else if k=1 then inB n (-2147483648) 2147483647
  else if k=2 then inB n 0 39
  else if k=3 then inB n 0 199
  else if k=4 then validL t
  else if k=5 then prfE t == 0
  else if k=6 then (parE t == 0)&&decide ((parT t).1<255)
  else if k=7 then (prfE t == 0)&&inB n 1 (prfT t).1
  else if k=8 then r
  else false
set_option maxHeartbeats 4000000 in
theorem fitsOperand_none (op n:Int) (hk:opdI op=-1) (t:ByteArray) (b:Bool) (c m d:ByteArray) (w:World):Calls Tryz.prog 336 #[.agg #[.int .i64 op,.int .i64 n,.string t,.bool b,.string c,.string m,.string d]] w fun e w'=>e=.returned (.bool (fitB (opdI op) n t.data.toList (rckB c.data.toList m.data.toList d.data.toList)))∧Below w.heap.size w w':=by
  have HO:=operand_any op
  rw [hk] at HO
  have HO:Hid (∀ w,_):=HO
  have HR:Hid (fitB (opdI op) n t.data.toList (rckB c.data.toList m.data.toList d.data.toList)=false):=by rw [Hid,hk];rfl
  generalize fitB (opdI op) n t.data.toList (rckB c.data.toList m.data.toList d.data.toList)=r at *
  clear hk
  all_goals go_enter Tryz.func336,Tryz.ntmps336
  all_goals go_wp2_with (first
    | (go_at_call 337;refine ((HO.out) _).mono ?_;rintro e w0 ⟨rfl,hw0⟩;rw [hw0];clear hw0 HO))
  all_goals
    go_ret
    exact ⟨ret_bool (by rw [HR.out]),(Below.refl _ _).alloc (Nat.le_refl _) _⟩
set_option maxHeartbeats 4000000 in
theorem fitsOperand_0 (op n:Int) (hk:opdI op=0) (t:ByteArray) (b:Bool) (c m d:ByteArray) (w:World):Calls Tryz.prog 336 #[.agg #[.int .i64 op,.int .i64 n,.string t,.bool b,.string c,.string m,.string d]] w fun e w'=>e=.returned (.bool (fitB (opdI op) n t.data.toList (rckB c.data.toList m.data.toList d.data.toList)))∧Below w.heap.size w w':=by
  have HO:=operand_any op
  rw [hk] at HO
  have HO:Hid (∀ w,_):=HO
  have HR:Hid (fitB (opdI op) n t.data.toList (rckB c.data.toList m.data.toList d.data.toList)=true):=by rw [Hid,hk];rfl
  generalize fitB (opdI op) n t.data.toList (rckB c.data.toList m.data.toList d.data.toList)=r at *
  clear hk
  all_goals go_enter Tryz.func336,Tryz.ntmps336
  all_goals go_wp2_with (first
    | (go_at_call 337;refine ((HO.out) _).mono ?_;rintro e w0 ⟨rfl,hw0⟩;rw [hw0];clear hw0 HO))
  all_goals
    go_ret
    exact ⟨ret_bool (by rw [HR.out]),(Below.refl _ _).alloc (Nat.le_refl _) _⟩
set_option maxHeartbeats 4000000 in
theorem fitsOperand_1 (op n:Int) (hk:opdI op=1) (t:ByteArray) (b:Bool) (c m d:ByteArray) (w:World):Calls Tryz.prog 336 #[.agg #[.int .i64 op,.int .i64 n,.string t,.bool b,.string c,.string m,.string d]] w fun e w'=>e=.returned (.bool (fitB (opdI op) n t.data.toList (rckB c.data.toList m.data.toList d.data.toList)))∧Below w.heap.size w w':=by
  have HO:=operand_any op
  rw [hk] at HO
  have HO:Hid (∀ w,_):=HO
  have HI:Hid (∀ l h w,_):=isWithin_any n
  have HR:Hid (fitB (opdI op) n t.data.toList (rckB c.data.toList m.data.toList d.data.toList)=inB n (-2147483648) 2147483647):=by rw [Hid,hk];rfl
  generalize fitB (opdI op) n t.data.toList (rckB c.data.toList m.data.toList d.data.toList)=r at *
  clear hk
  all_goals go_enter Tryz.func336,Tryz.ntmps336
  all_goals go_wp2_with (first
    | (go_at_call 337;refine ((HO.out) _).mono ?_;rintro e w0 ⟨rfl,hw0⟩;rw [hw0];clear hw0 HO)
    | (go_at_call 371;refine ((HI.out) _ _ _).mono ?_;rintro e w1 ⟨rfl,hw1⟩;rw [hw1];clear hw1))
  all_goals
    go_ret
    exact ⟨ret_bool (by rw [HR.out]),(Below.refl _ _).alloc (Nat.le_refl _) _⟩
set_option maxHeartbeats 4000000 in
theorem fitsOperand_2 (op n:Int) (hk:opdI op=2) (t:ByteArray) (b:Bool) (c m d:ByteArray) (w:World):Calls Tryz.prog 336 #[.agg #[.int .i64 op,.int .i64 n,.string t,.bool b,.string c,.string m,.string d]] w fun e w'=>e=.returned (.bool (fitB (opdI op) n t.data.toList (rckB c.data.toList m.data.toList d.data.toList)))∧Below w.heap.size w w':=by
  have HO:=operand_any op
  rw [hk] at HO
  have HO:Hid (∀ w,_):=HO
  have HI:Hid (∀ l h w,_):=isWithin_any n
  have HR:Hid (fitB (opdI op) n t.data.toList (rckB c.data.toList m.data.toList d.data.toList)=inB n 0 39):=by rw [Hid,hk];rfl
  generalize fitB (opdI op) n t.data.toList (rckB c.data.toList m.data.toList d.data.toList)=r at *
  clear hk
  all_goals go_enter Tryz.func336,Tryz.ntmps336
  all_goals go_wp2_with (first
    | (go_at_call 337;refine ((HO.out) _).mono ?_;rintro e w0 ⟨rfl,hw0⟩;rw [hw0];clear hw0 HO)
    | (go_at_call 371;refine ((HI.out) _ _ _).mono ?_;rintro e w1 ⟨rfl,hw1⟩;rw [hw1];clear hw1))
  all_goals
    go_ret
    exact ⟨ret_bool (by rw [HR.out]),(Below.refl _ _).alloc (Nat.le_refl _) _⟩
set_option maxHeartbeats 4000000 in
theorem fitsOperand_3 (op n:Int) (hk:opdI op=3) (t:ByteArray) (b:Bool) (c m d:ByteArray) (w:World):Calls Tryz.prog 336 #[.agg #[.int .i64 op,.int .i64 n,.string t,.bool b,.string c,.string m,.string d]] w fun e w'=>e=.returned (.bool (fitB (opdI op) n t.data.toList (rckB c.data.toList m.data.toList d.data.toList)))∧Below w.heap.size w w':=by
  have HO:=operand_any op
  rw [hk] at HO
  have HO:Hid (∀ w,_):=HO
  have HI:Hid (∀ l h w,_):=isWithin_any n
  have HR:Hid (fitB (opdI op) n t.data.toList (rckB c.data.toList m.data.toList d.data.toList)=inB n 0 199):=by rw [Hid,hk];rfl
  generalize fitB (opdI op) n t.data.toList (rckB c.data.toList m.data.toList d.data.toList)=r at *
  clear hk
  all_goals go_enter Tryz.func336,Tryz.ntmps336
  all_goals go_wp2_with (first
    | (go_at_call 337;refine ((HO.out) _).mono ?_;rintro e w0 ⟨rfl,hw0⟩;rw [hw0];clear hw0 HO)
    | (go_at_call 371;refine ((HI.out) _ _ _).mono ?_;rintro e w1 ⟨rfl,hw1⟩;rw [hw1];clear hw1))
  all_goals
    go_ret
    exact ⟨ret_bool (by rw [HR.out]),(Below.refl _ _).alloc (Nat.le_refl _) _⟩
set_option maxHeartbeats 4000000 in
theorem fitsOperand_4 (op n:Int) (hk:opdI op=4) (t:ByteArray) (b:Bool) (c m d:ByteArray) (ht:t.size≤maxLen) (w:World):Calls Tryz.prog 336 #[.agg #[.int .i64 op,.int .i64 n,.string t,.bool b,.string c,.string m,.string d]] w fun e w'=>e=.returned (.bool (fitB (opdI op) n t.data.toList (rckB c.data.toList m.data.toList d.data.toList)))∧Below w.heap.size w w':=by
  have HO:=operand_any op
  rw [hk] at HO
  have HO:Hid (∀ w,_):=HO
  have HV:Hid (∀ w,_):=valid_any t ht
  have HR:Hid (fitB (opdI op) n t.data.toList (rckB c.data.toList m.data.toList d.data.toList)=validL t.data.toList):=by rw [Hid,hk];rfl
  generalize fitB (opdI op) n t.data.toList (rckB c.data.toList m.data.toList d.data.toList)=r at *
  clear hk
  all_goals go_enter Tryz.func336,Tryz.ntmps336
  all_goals go_wp2_with (first
    | (go_at_call 337;refine ((HO.out) _).mono ?_;rintro e w0 ⟨rfl,hw0⟩;rw [hw0];clear hw0 HO)
    | (go_at_call 66;refine ((HV.out) _).mono ?_;rintro e w1 ⟨rfl,hb1⟩))
  all_goals
    go_ret
    exact ⟨ret_bool (by rw [HR.out]),Below.step ((Below.refl _ _).alloc (Nat.le_refl _) _) hb1⟩
set_option maxHeartbeats 4000000 in
theorem fitsOperand_5 (op n:Int) (hk:opdI op=5) (t:ByteArray) (b:Bool) (c m d:ByteArray) (ht:t.size≤maxLen) (w:World):Calls Tryz.prog 336 #[.agg #[.int .i64 op,.int .i64 n,.string t,.bool b,.string c,.string m,.string d]] w fun e w'=>e=.returned (.bool (fitB (opdI op) n t.data.toList (rckB c.data.toList m.data.toList d.data.toList)))∧Below w.heap.size w w':=by
  have HO:=operand_any op
  rw [hk] at HO
  have HO:Hid (∀ w,_):=HO
  have HV:Hid (∀ w,_):=parseRef_any t ht
  have HR:Hid (fitB (opdI op) n t.data.toList (rckB c.data.toList m.data.toList d.data.toList)=(prfE t.data.toList == 0)):=by rw [Hid,hk];rfl
  generalize fitB (opdI op) n t.data.toList (rckB c.data.toList m.data.toList d.data.toList)=r at *
  clear hk
  generalize prfE t.data.toList=pe at *
  generalize prfT t.data.toList=pt at *
  all_goals go_enter Tryz.func336,Tryz.ntmps336
  all_goals go_wp2_with (first
    | (go_at_call 337;refine ((HO.out) _).mono ?_;rintro e w0 ⟨rfl,hw0⟩;rw [hw0];clear hw0 HO)
    | (go_at_call 35;refine ((HV.out) _).mono ?_;rintro e w1 ⟨rfl,hb1⟩;have hB1:Hid (Below w.heap.size w w1):=Below.step ((Below.refl _ _).alloc (Nat.le_refl _) _) hb1;clear hb1))
  all_goals
    go_ret
    exact ⟨ret_bool (by rw [HR.out]),hB1.out.alloc hB1.out.size _⟩
set_option maxHeartbeats 4000000 in
theorem fitsOperand_6 (op n:Int) (hk:opdI op=6) (t:ByteArray) (b:Bool) (c m d:ByteArray) (ht:t.size≤maxLen) (w:World):Calls Tryz.prog 336 #[.agg #[.int .i64 op,.int .i64 n,.string t,.bool b,.string c,.string m,.string d]] w fun e w'=>e=.returned (.bool (fitB (opdI op) n t.data.toList (rckB c.data.toList m.data.toList d.data.toList)))∧Below w.heap.size w w':=by
  have HO:=operand_any op
  rw [hk] at HO
  have HO:Hid (∀ w,_):=HO
  have HV:Hid (∀ w,_):=parse_any t ht
  have HR:Hid (fitB (opdI op) n t.data.toList (rckB c.data.toList m.data.toList d.data.toList)=((parE t.data.toList == 0)&&decide ((parT t.data.toList).1<255))):=by rw [Hid,hk];rfl
  generalize fitB (opdI op) n t.data.toList (rckB c.data.toList m.data.toList d.data.toList)=r at *
  clear hk
  generalize parE t.data.toList=pe at *
  generalize parT t.data.toList=pt at *
  obtain ⟨q,hq⟩:∃ q,(pe == 0)=q:=⟨_,rfl⟩
  rw [hq] at HR
  cases q
  all_goals go_enter Tryz.func336,Tryz.ntmps336
  all_goals go_wp2_with (first
    | (go_at_call 337;refine ((HO.out) _).mono ?_;rintro e w0 ⟨rfl,hw0⟩;rw [hw0];clear hw0 HO)
    | (go_at_call 65;refine ((HV.out) _).mono ?_;rintro e w1 ⟨rfl,hb1⟩;have hB1:Hid (Below w.heap.size w w1):=Below.step ((Below.refl _ _).alloc (Nat.le_refl _) _) hb1;clear hb1))
  all_goals
    go_ret
    exact ⟨ret_bool (by rw [HR.out];first|(simp;done)|(simp;omega)),hB1.out.alloc hB1.out.size _⟩
set_option maxHeartbeats 4000000 in
theorem fitsOperand_7 (op n:Int) (hk:opdI op=7) (t:ByteArray) (b:Bool) (c m d:ByteArray) (ht:t.size≤maxLen) (w:World):Calls Tryz.prog 336 #[.agg #[.int .i64 op,.int .i64 n,.string t,.bool b,.string c,.string m,.string d]] w fun e w'=>e=.returned (.bool (fitB (opdI op) n t.data.toList (rckB c.data.toList m.data.toList d.data.toList)))∧Below w.heap.size w w':=by
  have HO:=operand_any op
  rw [hk] at HO
  have HO:Hid (∀ w,_):=HO
  have HV:Hid (∀ w,_):=parseRef_any t ht
  have HI:Hid (∀ l h w,_):=isWithin_any n
  have HR:Hid (fitB (opdI op) n t.data.toList (rckB c.data.toList m.data.toList d.data.toList)=((prfE t.data.toList == 0)&&inB n 1 (prfT t.data.toList).1)):=by rw [Hid,hk];rfl
  generalize fitB (opdI op) n t.data.toList (rckB c.data.toList m.data.toList d.data.toList)=r at *
  clear hk
  generalize prfE t.data.toList=pe at *
  generalize prfT t.data.toList=pt at *
  obtain ⟨q,hq⟩:∃ q,(pe == 0)=q:=⟨_,rfl⟩
  rw [hq] at HR
  cases q
  all_goals go_enter Tryz.func336,Tryz.ntmps336
  all_goals go_wp2_with (first
    | (go_at_call 337;refine ((HO.out) _).mono ?_;rintro e w0 ⟨rfl,hw0⟩;rw [hw0];clear hw0 HO)
    | (go_at_call 35;refine ((HV.out) _).mono ?_;rintro e w1 ⟨rfl,hb1⟩;have hs1:w.heap.size<w1.heap.size:=(by have:=hb1.size;simp at this;omega);have hB1:Hid (Below w.heap.size w w1):=Below.step ((Below.refl _ _).alloc (Nat.le_refl _) _) hb1;have hc11:w1.cell? ⟨w.heap.size,1,none⟩=some (.int .i64 n):=(hb1.cell (p:=⟨w.heap.size,1,none⟩) (by first|(simp [*];done)|(simp;omega))).trans (by simp [go_sem, *]);clear hb1)
    | (go_at_call 371;refine ((HI.out) _ _ _).mono ?_;rintro e w2 ⟨rfl,hw2⟩;rw [hw2];clear hw2))
  all_goals
    go_ret
    exact ⟨ret_bool (by rw [HR.out];first|(simp;done)|(simp;omega)),hB1.out.alloc hB1.out.size _⟩
set_option maxHeartbeats 4000000 in
theorem fitsOperand_8 (op n:Int) (hk:opdI op=8) (t:ByteArray) (b:Bool) (c m d:ByteArray) (hc:c.size≤maxLen) (hm:m.size≤maxLen) (hd:d.size≤maxLen) (w:World):Calls Tryz.prog 336 #[.agg #[.int .i64 op,.int .i64 n,.string t,.bool b,.string c,.string m,.string d]] w fun e w'=>e=.returned (.bool (fitB (opdI op) n t.data.toList (rckB c.data.toList m.data.toList d.data.toList)))∧Below w.heap.size w w':=by
  have HO:=operand_any op
  rw [hk] at HO
  have HO:Hid (∀ w,_):=HO
  have HV:Hid (∀ w,_):=refCheck_any b c m d hc hm hd
  have HE:Hid (rckE c.data.toList m.data.toList d.data.toList=if rckB c.data.toList m.data.toList d.data.toList then 0 else 1):=rfl
  have HR:Hid (fitB (opdI op) n t.data.toList (rckB c.data.toList m.data.toList d.data.toList)=rckB c.data.toList m.data.toList d.data.toList):=by rw [Hid,hk];rfl
  generalize fitB (opdI op) n t.data.toList (rckB c.data.toList m.data.toList d.data.toList)=r at *
  clear hk
  generalize rckE c.data.toList m.data.toList d.data.toList=re at *
  generalize rckB c.data.toList m.data.toList d.data.toList=rb at *
  cases rb
  all_goals (have he:=HE.out;simp only [if_true,Bool.false_eq_true,if_false] at he;subst he)
  all_goals go_enter Tryz.func336,Tryz.ntmps336
  all_goals go_wp2_with (first
    | (go_at_call 337;refine ((HO.out) _).mono ?_;rintro e w0 ⟨rfl,hw0⟩;rw [hw0];clear hw0 HO)
    | (go_at_call 17;refine ((HV.out) _).mono ?_;rintro e w1 ⟨rfl,hb1⟩;have hB1:Hid (Below w.heap.size w w1):=Below.step ((Below.refl _ _).alloc (Nat.le_refl _) _) hb1;clear hb1))
  all_goals
    go_ret
    exact ⟨ret_bool (by rw [HR.out]),hB1.out⟩
theorem fitsOperand_any (op n:Int) (t:ByteArray) (b:Bool) (c m d:ByteArray) (ht:t.size≤maxLen) (hc:c.size≤maxLen) (hm:m.size≤maxLen) (hd:d.size≤maxLen) (w:World):Calls Tryz.prog 336 #[.agg #[.int .i64 op,.int .i64 n,.string t,.bool b,.string c,.string m,.string d]] w fun e w'=>e=.returned (.bool (fitB (opdI op) n t.data.toList (rckB c.data.toList m.data.toList d.data.toList)))∧Below w.heap.size w w':=by
  rcases opd_cases op with e|e|e|e|e|e|e|e|e|e
  · exact fitsOperand_none op n e t b c m d w
  · exact fitsOperand_0 op n e t b c m d w
  · exact fitsOperand_1 op n e t b c m d w
  · exact fitsOperand_2 op n e t b c m d w
  · exact fitsOperand_3 op n e t b c m d w
  · exact fitsOperand_4 op n e t b c m d ht w
  · exact fitsOperand_5 op n e t b c m d ht w
  · exact fitsOperand_6 op n e t b c m d ht w
  · exact fitsOperand_7 op n e t b c m d ht w
  · exact fitsOperand_8 op n e t b c m d hc hm hd w
theorem ownParts_any (op n:Int) (t:ByteArray) (b:Bool) (c m d:ByteArray) (w:World):Calls Tryz.prog 335 #[.agg #[.int .i64 op,.int .i64 n,.string t,.bool b,.string c,.string m,.string d]] w fun e w'=>e=.returned (insV (ownI ⟨op,n,t,b,c,m,d⟩))∧Below w.heap.size w w':=by
  rcases opd_cases op with e|e|e|e|e|e|e|e|e|e
  · exact ownParts_none op n e t b c m d w
  · exact ownParts_0 op n e t b c m d w
  · exact ownParts_1 op n e t b c m d w
  · exact ownParts_2 op n e t b c m d w
  · exact ownParts_3 op n e t b c m d w
  · exact ownParts_4 op n e t b c m d w
  · exact ownParts_5 op n e t b c m d w
  · exact ownParts_6 op n e t b c m d w
  · exact ownParts_7 op n e t b c m d w
  · exact ownParts_8 op n e t b c m d w
theorem fitsMethod_any (op n locals size:Int) (t:ByteArray) (b:Bool) (c m d:ByteArray) (w:World):Calls Tryz.prog 301 #[.agg #[.int .i64 op,.int .i64 n,.string t,.bool b,.string c,.string m,.string d],.int .i64 locals,.int .i64 size] w fun e w'=>e=.returned (.bool (fmB (opdI op) n locals size))∧Below w.heap.size w w':=by
  rcases opd_cases op with e|e|e|e|e|e|e|e|e|e
  · exact fitsMethod_none op n locals size e t b c m d w
  · exact fitsMethod_0 op n locals size e t b c m d w
  · exact fitsMethod_1 op n locals size e t b c m d w
  · exact fitsMethod_2 op n locals size e t b c m d w
  · exact fitsMethod_3 op n locals size e t b c m d w
  · exact fitsMethod_4 op n locals size e t b c m d w
  · exact fitsMethod_5 op n locals size e t b c m d w
  · exact fitsMethod_6 op n locals size e t b c m d w
  · exact fitsMethod_7 op n locals size e t b c m d w
  · exact fitsMethod_8 op n locals size e t b c m d w
theorem eq_str (d:Nat) (a b:ByteArray) (w:World):(Op.equalIn (d+1) 9 (.string a) (.string b)).run Tryz.prog w=.ok (a == b) w:=by
  simp [Op.equalIn,run_underlying Tryz.underlying9,go_sem]
theorem eq_int (d:Nat) (a b:Int) (w:World):(Op.equalIn (d+1) 3 (.int .i64 a) (.int .i64 b)).run Tryz.prog w=.ok (a == b) w:=by
  simp [Op.equalIn,run_underlying Tryz.underlying3,go_sem]
theorem eq_bool (d:Nat) (a b:Bool) (w:World):(Op.equalIn (d+1) 4 (.bool a) (.bool b)).run Tryz.prog w=.ok (a == b) w:=by
  simp [Op.equalIn,run_underlying Tryz.underlying4,go_sem]
theorem str_eq (a b:ByteArray):(a == b)=(a.toList == b.toList):=by
  obtain ⟨a⟩:=a
  obtain ⟨b⟩:=b
  have h:((⟨a⟩:ByteArray) == ⟨b⟩)=(a == b):=rfl
  rw [Lib.toList_data,Lib.toList_data,h,Bool.eq_iff_iff,beq_iff_eq,beq_iff_eq]
  exact ⟨fun h=>by rw [h],fun h=>Array.toList_inj.1 h⟩
theorem eq_ref (d:Nat) (b1:Bool) (c1 n1 d1:ByteArray) (b2:Bool) (c2 n2 d2:ByteArray) (w:World):(Op.equalIn (d+1+1) 26 (.agg #[.bool b1,.string c1,.string n1,.string d1]) (.agg #[.bool b2,.string c2,.string n2,.string d2])).run Tryz.prog w=.ok (sameRefB b1 c1 n1 d1 b2 c2 n2 d2) w:=by
  rw [Op.equalIn]
  simp [run_underlying Tryz.underlying26,go_sem,part,eq_str,eq_bool]
  unfold sameRefB
  rw [← str_eq,← str_eq,← str_eq]
  generalize (c1 == c2)=x
  generalize (n1 == n2)=y
  generalize (d1 == d2)=z
  cases b1 <;> cases b2 <;> cases x <;> cases y <;> cases z <;> rfl
theorem eq_ins (a b:Ins) (w:World):(Op.equal 28 (insV a) (insV b)).run Tryz.prog w=.ok (sameI a b) w:=by
  have h:(Op.equalIn (9997+1+1+1) 28 (insV a) (insV b)).run Tryz.prog w=.ok (sameI a b) w:=by
    rw [Op.equalIn]
    simp [run_underlying Tryz.underlying28,go_sem,part,eq_str,eq_int,eq_ref,insV,insC]
    unfold sameI
    rw [← str_eq]
    generalize sameRefB a.b a.c a.m a.d b.b b.c b.m b.d=x
    generalize (a.t == b.t)=y
    by_cases h1:a.op=b.op <;> by_cases h2:a.n=b.n <;> cases x <;> cases y <;> simp [h1,h2]
  exact h
theorem e_none (x:ByteArray):(x.toList == (⟨#[]⟩:ByteArray).toList)=x.toList.isEmpty:=by
  have:(⟨#[]⟩:ByteArray).toList=[]:=by rw [Lib.toList_data]
  rw [this]
  cases x.toList <;> rfl
theorem r_none (b:Bool) (c m d:ByteArray):sameRefB b c m d false ⟨#[]⟩ ⟨#[]⟩ ⟨#[]⟩=noRefB b c m d:=by
  unfold sameRefB noRefB
  rw [e_none,e_none,e_none]
  cases b <;> rfl
theorem r_self (b:Bool) (c m d:ByteArray):sameRefB b c m d b c m d=true:=by
  unfold sameRefB;simp
theorem ick_own (i:Ins):ickI i=if sameI i (ownI i)&&fitB (opdI i.op) i.n i.t.data.toList (rckB i.c.data.toList i.m.data.toList i.d.data.toList) then 0 else 1:=by
  unfold ickI ickE
  congr 2
  unfold insB fitB ownI sameI inB
  generalize rckB i.c.data.toList i.m.data.toList i.d.data.toList=r
  rcases opd_cases i.op with e|e|e|e|e|e|e|e|e|e
  all_goals simp only [e,Int.reduceEq,Int.reduceNeg,reduceIte,or_false,or_true,e_none,r_none,r_self,beq_self_eq_true,Bool.true_and,Bool.and_true,Bool.and_false]
  all_goals generalize noRefB i.b i.c i.m i.d=z
  all_goals generalize i.t.toList.isEmpty=te
  · generalize (i.n == 0)=x
    cases x <;> cases z <;> cases te <;> rfl
  · cases z <;> cases te <;> simp
  · have:decide (i.n<40)=decide (i.n≤39):=by rw [decide_eq_decide];omega
    rw [this];cases z <;> cases te <;> simp
  · have:decide (i.n<200)=decide (i.n≤199):=by rw [decide_eq_decide];omega
    rw [this];cases z <;> cases te <;> simp
  · generalize (i.n == 0)=x
    cases x <;> cases z <;> simp
  · generalize (i.n == 0)=x
    cases x <;> cases z <;> simp
  · generalize (i.n == 0)=x
    cases x <;> cases z <;> simp
  · cases z <;> simp [Bool.and_assoc]
set_option maxHeartbeats 4000000 in
theorem check_any (op n:Int) (t:ByteArray) (b:Bool) (c m d:ByteArray) (ht:t.size≤maxLen) (hc:c.size≤maxLen) (hm:m.size≤maxLen) (hd:d.size≤maxLen) (w:World):Calls Tryz.prog 300 #[.agg #[.int .i64 op,.int .i64 n,.string t,.bool b,.string c,.string m,.string d]] w fun e w'=>e=.returned (.int .i64 (ickE op n t b c m d))∧Below w.heap.size w w':=by
  have HR:Hid (ickE op n t b c m d=if sameI ⟨op,n,t,b,c,m,d⟩ (ownI ⟨op,n,t,b,c,m,d⟩)&&fitB (opdI op) n t.data.toList (rckB c.data.toList m.data.toList d.data.toList) then 0 else 1):=ick_own ⟨op,n,t,b,c,m,d⟩
  have HQ:∀ w,(Op.equal 28 (.agg #[.int .i64 op,.int .i64 n,.string t,.bool b,.string c,.string m,.string d]) (insV (ownI ⟨op,n,t,b,c,m,d⟩))).run Tryz.prog w=.ok (sameI ⟨op,n,t,b,c,m,d⟩ (ownI ⟨op,n,t,b,c,m,d⟩)) w:=eq_ins ⟨op,n,t,b,c,m,d⟩ _
  obtain ⟨BX,hBX⟩:∃ BX,BX=w.alloc (.cells #[.int .i64 op,.int .i64 n,.string t,.bool b,.string c,.string m,.string d] 28):=⟨_,rfl⟩
  have HP:Hid (∀ w',Hid (Below (w.heap.size+1) BX w')→Calls Tryz.prog 335 #[.agg #[.int .i64 op,.int .i64 n,.string t,.bool b,.string c,.string m,.string d]] w' fun e w''=>e=.returned (insV (ownI ⟨op,n,t,b,c,m,d⟩))∧Hid (Below (w.heap.size+1) BX w'')) :=
    fun w' h=>(ownParts_any op n t b c m d w').mono fun e w'' ⟨he,hb⟩=>⟨he,h.out.trans (hb.mono (by have:=h.out.size;rw [hBX] at this;simpa using this))⟩
  have HF:Hid (∀ w',Hid (Below (w.heap.size+1) BX w')→Calls Tryz.prog 336 #[.agg #[.int .i64 op,.int .i64 n,.string t,.bool b,.string c,.string m,.string d]] w' fun e w''=>e=.returned (.bool (fitB (opdI op) n t.data.toList (rckB c.data.toList m.data.toList d.data.toList)))∧Hid (Below (w.heap.size+1) BX w'')) :=
    fun w' h=>(fitsOperand_any op n t b c m d ht hc hm hd w').mono fun e w'' ⟨he,hb⟩=>⟨he,h.out.trans (hb.mono (by have:=h.out.size;rw [hBX] at this;simpa using this))⟩
  obtain ⟨σ,V,V1,V2⟩:∃ (σ:Type) (V:σ→World),Hid (∀ s,Hid (Below (w.heap.size+1) BX (V s)))∧Hid (∀ w',Hid (Below (w.heap.size+1) BX w')→∃ s,w'=V s) :=
    ⟨{w' // Hid (Below (w.heap.size+1) BX w')},Subtype.val,fun s=>s.2,fun w q=>⟨⟨w,q⟩,rfl⟩⟩
  have T0:Hid (Below (w.heap.size+1) BX BX.drew):=(Below.refl _ _).drew
  have hne:Nonempty σ:=(V2.out _ T0).elim fun s _=>⟨s⟩
  subst hBX
  have q0:∀ s,(V s).cell? ⟨w.heap.size,0,none⟩=some (.int .i64 op):=fun s=>((V1.out s).out.cell (p:=⟨w.heap.size,0,none⟩) (by simp)).trans (by simp [go_sem])
  have q1:∀ s,(V s).cell? ⟨w.heap.size,1,none⟩=some (.int .i64 n):=fun s=>((V1.out s).out.cell (p:=⟨w.heap.size,1,none⟩) (by simp)).trans (by simp [go_sem])
  have q2:∀ s,(V s).cell? ⟨w.heap.size,2,none⟩=some (.string t):=fun s=>((V1.out s).out.cell (p:=⟨w.heap.size,2,none⟩) (by simp)).trans (by simp [go_sem])
  have q3:∀ s,(V s).cell? ⟨w.heap.size,3,none⟩=some (.bool b):=fun s=>((V1.out s).out.cell (p:=⟨w.heap.size,3,none⟩) (by simp)).trans (by simp [go_sem])
  have q4:∀ s,(V s).cell? ⟨w.heap.size,4,none⟩=some (.string c):=fun s=>((V1.out s).out.cell (p:=⟨w.heap.size,4,none⟩) (by simp)).trans (by simp [go_sem])
  have q5:∀ s,(V s).cell? ⟨w.heap.size,5,none⟩=some (.string m):=fun s=>((V1.out s).out.cell (p:=⟨w.heap.size,5,none⟩) (by simp)).trans (by simp [go_sem])
  have q6:∀ s,(V s).cell? ⟨w.heap.size,6,none⟩=some (.string d):=fun s=>((V1.out s).out.cell (p:=⟨w.heap.size,6,none⟩) (by simp)).trans (by simp [go_sem])
  have HB:Hid (∀ s,Below w.heap.size w (V s)):=fun s=>((Below.refl w.heap.size w).alloc (Nat.le_refl _) _).trans ((V1.out s).out.mono (by omega))
  generalize ickE op n t b c m d=z at *
  generalize fitB (opdI op) n t.data.toList (rckB c.data.toList m.data.toList d.data.toList)=fb at *
  generalize hgo:sameI ⟨op,n,t,b,c,m,d⟩ (ownI ⟨op,n,t,b,c,m,d⟩)=sb at *
  clear hgo
  generalize hO:insV (ownI ⟨op,n,t,b,c,m,d⟩)=O at *
  obtain ⟨cs,rfl⟩:∃ cs,O=.agg cs:=⟨_,hO.symm⟩
  have G1:∀ w,(eqGuard .neq 28 (.tmp 3) (.tmp 5) (.agg #[.int .i64 op,.int .i64 n,.string t,.bool b,.string c,.string m,.string d]) (.agg cs)).run Tryz.prog w=.ok () w:=fun w=>by
    simp [eqGuard,go_sem]
  have G2:∀ w,(binOp .neq 28 (.agg #[.int .i64 op,.int .i64 n,.string t,.bool b,.string c,.string m,.string d]) (.agg cs)).run Tryz.prog w=.ok (.bool (!sb)) w:=fun w=>by
    simp [binOp,HQ,go_sem]
  clear hO ht hc hm hd HQ
  cases sb <;> cases fb
  all_goals go_enter Tryz.func300,Tryz.ntmps300
  all_goals go_wp2
  all_goals refine wp_region_class (C:=fun w'=>∃ s,w'=V s) (by kernel_rfl) (by kernel_rfl) (V2.out _ T0) ?_
  all_goals repeat (go_big_quiet_step (first
    | (go_at_call 335;exact (HP.out _ (V1.out _)).mono fun e w'' z=>⟨z.1,V2.out _ z.2⟩)
    | (go_at_call 336;exact (HF.out _ (V1.out _)).mono fun e w'' z=>⟨z.1,V2.out _ z.2⟩)))
  all_goals refine wpQuiet_nil ?_
  all_goals intro w9 hw9
  all_goals obtain ⟨s9,rfl⟩:=hw9
  all_goals go_wp2
  all_goals
    go_ret
    exact ⟨ret_int (by rw [HR.out];rfl),HB.out _⟩
end Go.Proofs.YtlohdfpinmdljaaGreatDoor
