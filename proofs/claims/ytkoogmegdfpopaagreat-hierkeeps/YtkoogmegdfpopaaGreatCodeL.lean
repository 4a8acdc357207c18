import Derived.Test.YtkoogmegdfpopaaGreatRefDesc
import Derived.Lib.ItoaLen
set_option maxHeartbeats 8000000
set_option maxRecDepth 100000
namespace Go.Proofs.YtkoogmegdfpopaaGreat
open Go.RowKit
def opdTab:List Int:=[-1,1,2,2,2,2,0,0,0,0,0,3,3,3,3,3,3,3,3,0,0,0,4,6,7,0,0,0,0,0,5,5,8,8,8,8,0,0,0,0,0]
def opdI (op:Int):Int:=if op<1∨40<op then -1 else opdTab.getD op.toNat 0
theorem Zt (op:Int) (w:World):Calls Tryz.prog 103 #[.int .i64 op] w fun e w'=>e=.returned (.int .i64 (opdI op))∧w'=w:=by
 by_cases h:op<1∨40<op
 ·have HO:Hid (opdI op=-1):=by rw [Hid,opdI,if_pos h]
  have hk:∀ k:Int,1≤k→k≤40→(op == k)=false:=fun k h1 h2=>by rw [beq_eq_false_iff_ne];omega
  have e1:=hk 1 (by omega) (by omega);have e2:=hk 2 (by omega) (by omega);have e3:=hk 3 (by omega) (by omega);have e4:=hk 4 (by omega) (by omega);have e5:=hk 5 (by omega) (by omega)
  have e11:=hk 11 (by omega) (by omega);have e12:=hk 12 (by omega) (by omega);have e13:=hk 13 (by omega) (by omega);have e14:=hk 14 (by omega) (by omega);have e15:=hk 15 (by omega) (by omega);have e16:=hk 16 (by omega) (by omega);have e17:=hk 17 (by omega) (by omega);have e18:=hk 18 (by omega) (by omega)
  have e22:=hk 22 (by omega) (by omega);have e30:=hk 30 (by omega) (by omega);have e31:=hk 31 (by omega) (by omega);have e23:=hk 23 (by omega) (by omega);have e24:=hk 24 (by omega) (by omega)
  have e32:=hk 32 (by omega) (by omega);have e33:=hk 33 (by omega) (by omega);have e34:=hk 34 (by omega) (by omega);have e35:=hk 35 (by omega) (by omega)
  clear hk
  by_cases h1:op<1
  ·clear h
   go_enter Tryz.func103,Tryz.ntmps103
   go_wp2
   go_ret
   exact ⟨Zf HO.out.symm,rfl⟩
  ·have h2:40<op:=by omega
   clear h
   go_enter Tryz.func103,Tryz.ntmps103
   go_wp2
   go_ret
   exact ⟨Zf HO.out.symm,rfl⟩
 ·obtain ⟨k,rfl⟩:∃ k:Nat,op=k:=⟨op.toNat,by omega⟩
  have hk:k=1∨k=2∨k=3∨k=4∨k=5∨k=6∨k=7∨k=8∨k=9∨k=10∨k=11∨k=12∨k=13∨k=14∨k=15∨k=16∨k=17∨k=18∨k=19∨k=20∨k=21∨k=22∨k=23∨k=24∨k=25∨k=26∨k=27∨k=28∨k=29∨k=30∨k=31∨k=32∨k=33∨k=34∨k=35∨k=36∨k=37∨k=38∨k=39∨k=40:=by omega
  clear h
  rcases hk with rfl|rfl|rfl|rfl|rfl|rfl|rfl|rfl|rfl|rfl|rfl|rfl|rfl|rfl|rfl|rfl|rfl|rfl|rfl|rfl|rfl|rfl|rfl|rfl|rfl|rfl|rfl|rfl|rfl|rfl|rfl|rfl|rfl|rfl|rfl|rfl|rfl|rfl|rfl|rfl
  all_goals
   go_enter Tryz.func103,Tryz.ntmps103
   go_wp2
   go_ret
   exact ⟨rfl,rfl⟩
def Z5 (b:Bool) (c n d:ByteArray):Bool:=!b&&c.toList.isEmpty&&n.toList.isEmpty&&d.toList.isEmpty
theorem Z6 (b:Bool) (c n d:ByteArray) (w:World):Calls Tryz.prog 121 #[.agg #[.bool b,.string c,.string n,.string d]] w fun e w'=>e=.returned (.bool (Z5 b c n d))∧Bw w w':=by
 have HN:Hid (Z5 b c n d=(!b&&c.toList.isEmpty&&n.toList.isEmpty&&d.toList.isEmpty)):=rfl
 generalize Z5 b c n d=z at *
 go_enter Tryz.func121,Tryz.ntmps121
 go_wp2
 all_goals
  go_ret
  exact ⟨Za (by rw [HN.out];simp [*]),(Below.refl _ _).alloc (Nat.le_refl _) _⟩
def Z2 (b1:Bool) (c1 n1 d1:ByteArray) (b2:Bool) (c2 n2 d2:ByteArray):Bool:=(b1 == b2)&&(c1.toList == c2.toList)&&(n1.toList == n2.toList)&&(d1.toList == d2.toList)
theorem Zda (b1:Bool) (c1 n1 d1:ByteArray) (b2:Bool) (c2 n2 d2:ByteArray) (w:World):Calls Tryz.prog 106 #[.agg #[.bool b1,.string c1,.string n1,.string d1],.agg #[.bool b2,.string c2,.string n2,.string d2]] w fun e w'=>e=.returned (.bool (Z2 b1 c1 n1 d1 b2 c2 n2 d2))∧Bw w w':=by
 have HN:Hid (Z2 b1 c1 n1 d1 b2 c2 n2 d2=((b1 == b2)&&(c1.toList == c2.toList)&&(n1.toList == n2.toList)&&(d1.toList == d2.toList))):=rfl
 generalize Z2 b1 c1 n1 d1 b2 c2 n2 d2=z at *
 generalize hc:(c1.toList == c2.toList)=qc at *
 generalize hn:(n1.toList == n2.toList)=qn at *
 generalize hd:(d1.toList == d2.toList)=qd at *
 generalize hb:(b1 == b2)=qb at *
 go_enter Tryz.func106,Tryz.ntmps106
 go_wp2
 all_goals
  go_ret
  exact ⟨Za (by rw [HN.out];simp [*]),((Below.refl _ _).alloc (Nat.le_refl _) _).alloc (by simp) _⟩
theorem Zh1 (o1 m1:Int) (t1:ByteArray) (b1:Bool) (c1 n1 d1:ByteArray) (o2 m2:Int) (t2:ByteArray) (b2:Bool) (c2 n2 d2:ByteArray) (w:World):Calls Tryz.prog 87 #[.agg #[.int .i64 o1,.int .i64 m1,.string t1,.bool b1,.string c1,.string n1,.string d1],.agg #[.int .i64 o2,.int .i64 m2,.string t2,.bool b2,.string c2,.string n2,.string d2]] w fun e w'=>e=.returned (.bool ((o1 == o2)&&(m1 == m2)&&(t1.toList == t2.toList)&&Z2 b1 c1 n1 d1 b2 c2 n2 d2))∧Bw w w':=by
 have HS:Hid (∀ w,_):=Zda b1 c1 n1 d1 b2 c2 n2 d2
 generalize Z2 b1 c1 n1 d1 b2 c2 n2 d2=z at *
 obtain ⟨r,hr⟩:∃ r,r=((o1 == o2)&&(m1 == m2)&&(t1.toList == t2.toList)&&z):=⟨_,rfl⟩
 have HR:Hid (r=((o1 == o2)&&(m1 == m2)&&(t1.toList == t2.toList)&&z)):=hr
 rw [← hr]
 clear hr
 generalize ho:(o1 == o2)=qo at *
 generalize hm:(m1 == m2)=qm at *
 generalize ht:(t1.toList == t2.toList)=qt at *
 go_enter Tryz.func87,Tryz.ntmps87
 go_wp2_with (go_at_call 106;refine ((HS.out) _).mono ?_;rintro e w1 ⟨rfl,hb1⟩)
 all_goals
  go_ret
  first
   | exact ⟨Za (by rw [HR.out];simp [*]),((Below.refl _ _).alloc (Nat.le_refl _) _).alloc (by simp) _⟩
   | exact ⟨Za (by rw [HR.out];simp [*]),Below.step (((Below.refl _ _).alloc (Nat.le_refl _) _).alloc (by simp) _) hb1⟩
def rckB (c n d:List UInt8):Bool:=(prfE c == 0)&&Z3 n&&(pdE d == 0)
def rckE (c n d:List UInt8):Int:=if rckB c n d then 0 else 1
theorem Zb7 (b:Bool) (c n d:ByteArray) (hc:c.size≤maxLen) (hn:n.size≤maxLen) (hd:d.size≤maxLen) (w:World):Calls Tryz.prog 124 #[.agg #[.bool b,.string c,.string n,.string d]] w fun e w'=>e=.returned (.int .i64 (rckE c.data.toList n.data.toList d.data.toList))∧Bw w w':=by
 have HP:Hid (∀ w,_):=Xd c hc
 have HM:Hid (∀ w,_):=Zaj n hn
 have HD:Hid (∀ w,_):=Y5 d hd
 have HR:Hid (rckE c.data.toList n.data.toList d.data.toList=if ((prfE c.data.toList == 0)&&Z3 n.data.toList&&(pdE d.data.toList == 0)) then 0 else 1):=rfl
 clear hc hn hd
 unfold DOut at HD
 generalize rckE c.data.toList n.data.toList d.data.toList=z at *
 generalize prfE c.data.toList=pc at *
 generalize prfT c.data.toList=pt at *
 generalize Z3 n.data.toList=mm at *
 generalize pdE d.data.toList=pd at *
 generalize pdD d.data.toList=dd at *
 by_cases hpc:pc=0
 ·subst hpc
  cases mm with
  | false =>
    go_enter Tryz.func124,Tryz.ntmps124
    go_wp2_with (first
     | (go_at_call 122;refine ((HP.out) _).mono ?_;rintro e w1 ⟨rfl,hb1⟩;have hs1:w.heap.size<w1.heap.size:=sqS hb1;have hc2:=sqA hb1 w.heap.size 2 (.string n))
     | (go_at_call 81;refine ((HM.out) _).mono ?_;rintro e w2 ⟨rfl,hw2⟩;rw [hw2]))
    go_ret
    exact ⟨Zf (by rw [HR.out];rfl),(sqT hb1).alloc (sqT hb1).size _⟩
  | true =>
    by_cases hpd:pd=0
    ·subst hpd
     go_enter Tryz.func124,Tryz.ntmps124
     go_wp2_with (first
      | (go_at_call 122;refine ((HP.out) _).mono ?_;rintro e w1 ⟨rfl,hb1⟩;have hs1:w.heap.size<w1.heap.size:=sqS hb1;have hc2:=sqA hb1 w.heap.size 2 (.string n);have hc3:=sqA hb1 w.heap.size 3 (.string d))
      | (go_at_call 81;refine ((HM.out) _).mono ?_;rintro e w2 ⟨rfl,hw2⟩;rw [hw2])
      | (go_at_call 83;refine ((HD.out) _).mono ?_;rintro e w3 ⟨v,rfl,ho3,hb3⟩;obtain ⟨v1,v2,rfl⟩:=Zd ho3))
     have hB:=Below.step ((Below.step ((Below.refl w.heap.size w).alloc (Nat.le_refl _) _) hb1).alloc (sqT hb1).size _) hb3
     go_ret
     exact ⟨Zf (by rw [HR.out];rfl),hB.alloc hB.size _⟩
    ·have hne:(pd != 0)=true:=by rw [bne_iff_ne];exact hpd
     go_enter Tryz.func124,Tryz.ntmps124
     go_wp2_with (first
      | (go_at_call 122;refine ((HP.out) _).mono ?_;rintro e w1 ⟨rfl,hb1⟩;have hs1:w.heap.size<w1.heap.size:=sqS hb1;have hc2:=sqA hb1 w.heap.size 2 (.string n);have hc3:=sqA hb1 w.heap.size 3 (.string d))
      | (go_at_call 81;refine ((HM.out) _).mono ?_;rintro e w2 ⟨rfl,hw2⟩;rw [hw2])
      | (go_at_call 83;refine ((HD.out) _).mono ?_;rintro e w3 ⟨v,rfl,ho3,hb3⟩;obtain ⟨v1,v2,rfl⟩:=Zd ho3))
     have hB:=Below.step ((Below.step ((Below.refl w.heap.size w).alloc (Nat.le_refl _) _) hb1).alloc (sqT hb1).size _) hb3
     go_ret
     exact ⟨Zf (by rw [HR.out];simp [hpd]),hB.alloc hB.size _⟩
 ·have hne:(pc != 0)=true:=by rw [bne_iff_ne];exact hpc
  go_enter Tryz.func124,Tryz.ntmps124
  go_wp2_with (go_at_call 122;refine ((HP.out) _).mono ?_;rintro e w1 ⟨rfl,hb1⟩)
  go_ret
  exact ⟨Zf (by rw [HR.out];simp [hpc]),(sqT hb1).alloc (sqT hb1).size _⟩
theorem Xo (op:Int):opdI op=-1∨opdI op=0∨opdI op=1∨opdI op=2∨opdI op=3∨opdI op=4∨opdI op=5∨opdI op=6∨opdI op=7∨opdI op=8:=by
 by_cases h:op<1∨40<op
 ·left;rw [opdI,if_pos h]
 ·have hx:∀ k:Fin 41,(opdTab.getD k.1 0=-1∨opdTab.getD k.1 0=0∨opdTab.getD k.1 0=1∨opdTab.getD k.1 0=2∨opdTab.getD k.1 0=3∨opdTab.getD k.1 0=4∨opdTab.getD k.1 0=5∨opdTab.getD k.1 0=6∨opdTab.getD k.1 0=7∨opdTab.getD k.1 0=8):=by decide
  have:=hx ⟨op.toNat,by omega⟩
  rw [opdI,if_neg h]
  exact this
def insB (k n:Int) (te:Bool) (t:List UInt8) (z r:Bool):Bool :=
 if k=0 then z&&(n == 0)&&te
 else if k=1 then z&&te&&decide (-2147483648≤n)&&decide (n≤2147483647)
 else if k=2 then z&&te&&decide (0≤n)&&decide (n<40)
 else if k=3 then z&&te&&decide (0≤n)&&decide (n<200)
 else if k=4 then z&&(n == 0)&&Zk t
 else if k=5 then z&&(n == 0)&&(prfE t == 0)
 else if k=6 then z&&(n == 0)&&(parE t == 0)&&decide ((parT t).1<255)
 else if k=7 then z&&(prfE t == 0)&&decide (1≤n)&&decide (n≤(prfT t).1)
 else if k=8 then (n == 0)&&te&&r
 else false
def ickE (op n:Int) (t:ByteArray) (b:Bool) (c m d:ByteArray):Int:=if insB (opdI op) n t.toList.isEmpty t.data.toList (Z5 b c m d) (rckB c.data.toList m.data.toList d.data.toList) then 0 else 1
theorem Zeo (op n:Int) (hk:opdI op=-1) (t:ByteArray) (b:Bool) (c m d:ByteArray) (w:World):Calls Tryz.prog 104 #[.agg #[.int .i64 op,.int .i64 n,.string t,.bool b,.string c,.string m,.string d]] w fun e w'=>e=.returned (.int .i64 (ickE op n t b c m d))∧Bw w w':=by
 have HO:=Zt op
 have HN:Hid (∀ w,_):=Z6 b c m d
 have HR:Hid (ickE op n t b c m d=if false then 0 else 1):=by rw [Hid,ickE,hk];rfl
 rw [hk] at HO
 have HO:Hid (∀ w,_):=HO
 generalize ickE op n t b c m d=x at *
 generalize Z5 b c m d=z at *
 clear hk
 cases z
 all_goals go_enter Tryz.func104,Tryz.ntmps104
 all_goals go_wp2_with (first
  | (go_at_call 103;refine ((HO.out) _).mono ?_;rintro e w0 ⟨rfl,hw0⟩;rw [hw0];clear hw0 HO)
  | (go_at_call 121;refine ((HN.out) _).mono ?_;rintro e w1 ⟨rfl,hb1⟩;clear HN;have hs1:w.heap.size<w1.heap.size:=sqS hb1;have hc11:w1.cell? ⟨w.heap.size,1,none⟩=some (.int .i64 n):=(hb1.cell (p:=⟨w.heap.size,1,none⟩) (by simp [*])).trans (by simp [go_sem, *]);have hc12:w1.cell? ⟨w.heap.size,2,none⟩=some (.string t):=(hb1.cell (p:=⟨w.heap.size,2,none⟩) (by simp [*])).trans (by simp [go_sem, *]);have hB1:Hid (Bw w w1):=sqT hb1;clear hb1))
 all_goals
  go_ret
  refine ⟨Zf (by rw [HR.out];rfl),?_⟩
  first
   | exact (Below.refl _ _).alloc (Nat.le_refl _) _
   | exact hB1.out
theorem rCheck_0 (op n:Int) (hk:opdI op=0) (t:ByteArray) (b:Bool) (c m d:ByteArray) (w:World):Calls Tryz.prog 104 #[.agg #[.int .i64 op,.int .i64 n,.string t,.bool b,.string c,.string m,.string d]] w fun e w'=>e=.returned (.int .i64 (ickE op n t b c m d))∧Bw w w':=by
 have HO:=Zt op
 have HN:Hid (∀ w,_):=Z6 b c m d
 have HR:Hid (ickE op n t b c m d=if Z5 b c m d&&(n == 0)&&t.toList.isEmpty then 0 else 1):=by rw [Hid,ickE,hk];rfl
 rw [hk] at HO
 have HO:Hid (∀ w,_):=HO
 generalize ickE op n t b c m d=x at *
 generalize Z5 b c m d=z at *
 clear hk
 obtain ⟨nz,hnz⟩:∃ nz,(n == 0)=nz:=⟨_,rfl⟩
 have hnz2:(n != 0)=!nz:=by rw [bne,hnz]
 obtain ⟨te,hte⟩:∃ te,t.toList.isEmpty=te:=⟨_,rfl⟩
 rw [hnz,hte] at HR
 cases z <;> cases nz <;> cases te
 all_goals go_enter Tryz.func104,Tryz.ntmps104
 all_goals go_wp2_with (first
  | (go_at_call 103;refine ((HO.out) _).mono ?_;rintro e w0 ⟨rfl,hw0⟩;rw [hw0];clear hw0 HO)
  | (go_at_call 121;refine ((HN.out) _).mono ?_;rintro e w1 ⟨rfl,hb1⟩;clear HN;have hs1:w.heap.size<w1.heap.size:=sqS hb1;have hc11:w1.cell? ⟨w.heap.size,1,none⟩=some (.int .i64 n):=(hb1.cell (p:=⟨w.heap.size,1,none⟩) (by simp [*])).trans (by simp [go_sem, *]);have hc12:w1.cell? ⟨w.heap.size,2,none⟩=some (.string t):=(hb1.cell (p:=⟨w.heap.size,2,none⟩) (by simp [*])).trans (by simp [go_sem, *]);have hB1:Hid (Bw w w1):=sqT hb1;clear hb1))
 all_goals
  go_ret
  refine ⟨Zf (by rw [HR.out];rfl),?_⟩
  first
   | exact (Below.refl _ _).alloc (Nat.le_refl _) _
   | exact hB1.out
theorem rCheck_1 (op n:Int) (hk:opdI op=1) (t:ByteArray) (b:Bool) (c m d:ByteArray) (w:World):Calls Tryz.prog 104 #[.agg #[.int .i64 op,.int .i64 n,.string t,.bool b,.string c,.string m,.string d]] w fun e w'=>e=.returned (.int .i64 (ickE op n t b c m d))∧Bw w w':=by
 have HO:=Zt op
 have HN:Hid (∀ w,_):=Z6 b c m d
 have HR:Hid (ickE op n t b c m d=if Z5 b c m d&&t.toList.isEmpty&&decide (-2147483648≤n)&&decide (n≤2147483647) then 0 else 1):=by rw [Hid,ickE,hk];rfl
 rw [hk] at HO
 have HO:Hid (∀ w,_):=HO
 generalize ickE op n t b c m d=x at *
 generalize Z5 b c m d=z at *
 clear hk
 obtain ⟨te,hte⟩:∃ te,t.toList.isEmpty=te:=⟨_,rfl⟩
 rw [hte] at HR
 cases z <;> cases te
 all_goals go_enter Tryz.func104,Tryz.ntmps104
 all_goals go_wp2_with (first
  | (go_at_call 103;refine ((HO.out) _).mono ?_;rintro e w0 ⟨rfl,hw0⟩;rw [hw0];clear hw0 HO)
  | (go_at_call 121;refine ((HN.out) _).mono ?_;rintro e w1 ⟨rfl,hb1⟩;clear HN;have hs1:w.heap.size<w1.heap.size:=sqS hb1;have hc11:w1.cell? ⟨w.heap.size,1,none⟩=some (.int .i64 n):=(hb1.cell (p:=⟨w.heap.size,1,none⟩) (by simp [*])).trans (by simp [go_sem, *]);have hc12:w1.cell? ⟨w.heap.size,2,none⟩=some (.string t):=(hb1.cell (p:=⟨w.heap.size,2,none⟩) (by simp [*])).trans (by simp [go_sem, *]);have hB1:Hid (Bw w w1):=sqT hb1;clear hb1))
 all_goals
  go_ret
  refine ⟨Zf (by rw [HR.out];first|rfl|(split <;> first|rfl|(exfalso;simp_all;done)|(exfalso;simp_all;omega))),?_⟩
  first
   | exact (Below.refl _ _).alloc (Nat.le_refl _) _
   | exact hB1.out
theorem rCheck_2 (op n:Int) (hk:opdI op=2) (t:ByteArray) (b:Bool) (c m d:ByteArray) (w:World):Calls Tryz.prog 104 #[.agg #[.int .i64 op,.int .i64 n,.string t,.bool b,.string c,.string m,.string d]] w fun e w'=>e=.returned (.int .i64 (ickE op n t b c m d))∧Bw w w':=by
 have HO:=Zt op
 have HN:Hid (∀ w,_):=Z6 b c m d
 have HR:Hid (ickE op n t b c m d=if Z5 b c m d&&t.toList.isEmpty&&decide (0≤n)&&decide (n<40) then 0 else 1):=by rw [Hid,ickE,hk];rfl
 rw [hk] at HO
 have HO:Hid (∀ w,_):=HO
 generalize ickE op n t b c m d=x at *
 generalize Z5 b c m d=z at *
 clear hk
 obtain ⟨te,hte⟩:∃ te,t.toList.isEmpty=te:=⟨_,rfl⟩
 rw [hte] at HR
 cases z <;> cases te
 all_goals go_enter Tryz.func104,Tryz.ntmps104
 all_goals go_wp2_with (first
  | (go_at_call 103;refine ((HO.out) _).mono ?_;rintro e w0 ⟨rfl,hw0⟩;rw [hw0];clear hw0 HO)
  | (go_at_call 121;refine ((HN.out) _).mono ?_;rintro e w1 ⟨rfl,hb1⟩;clear HN;have hs1:w.heap.size<w1.heap.size:=sqS hb1;have hc11:w1.cell? ⟨w.heap.size,1,none⟩=some (.int .i64 n):=(hb1.cell (p:=⟨w.heap.size,1,none⟩) (by simp [*])).trans (by simp [go_sem, *]);have hc12:w1.cell? ⟨w.heap.size,2,none⟩=some (.string t):=(hb1.cell (p:=⟨w.heap.size,2,none⟩) (by simp [*])).trans (by simp [go_sem, *]);have hB1:Hid (Bw w w1):=sqT hb1;clear hb1))
 all_goals
  go_ret
  refine ⟨Zf (by rw [HR.out];first|rfl|(split <;> first|rfl|(exfalso;simp_all;done)|(exfalso;simp_all;omega))),?_⟩
  first
   | exact (Below.refl _ _).alloc (Nat.le_refl _) _
   | exact hB1.out
theorem rCheck_3 (op n:Int) (hk:opdI op=3) (t:ByteArray) (b:Bool) (c m d:ByteArray) (w:World):Calls Tryz.prog 104 #[.agg #[.int .i64 op,.int .i64 n,.string t,.bool b,.string c,.string m,.string d]] w fun e w'=>e=.returned (.int .i64 (ickE op n t b c m d))∧Bw w w':=by
 have HO:=Zt op
 have HN:Hid (∀ w,_):=Z6 b c m d
 have HR:Hid (ickE op n t b c m d=if Z5 b c m d&&t.toList.isEmpty&&decide (0≤n)&&decide (n<200) then 0 else 1):=by rw [Hid,ickE,hk];rfl
 rw [hk] at HO
 have HO:Hid (∀ w,_):=HO
 generalize ickE op n t b c m d=x at *
 generalize Z5 b c m d=z at *
 clear hk
 obtain ⟨te,hte⟩:∃ te,t.toList.isEmpty=te:=⟨_,rfl⟩
 rw [hte] at HR
 cases z <;> cases te
 all_goals go_enter Tryz.func104,Tryz.ntmps104
 all_goals go_wp2_with (first
  | (go_at_call 103;refine ((HO.out) _).mono ?_;rintro e w0 ⟨rfl,hw0⟩;rw [hw0];clear hw0 HO)
  | (go_at_call 121;refine ((HN.out) _).mono ?_;rintro e w1 ⟨rfl,hb1⟩;clear HN;have hs1:w.heap.size<w1.heap.size:=sqS hb1;have hc11:w1.cell? ⟨w.heap.size,1,none⟩=some (.int .i64 n):=(hb1.cell (p:=⟨w.heap.size,1,none⟩) (by simp [*])).trans (by simp [go_sem, *]);have hc12:w1.cell? ⟨w.heap.size,2,none⟩=some (.string t):=(hb1.cell (p:=⟨w.heap.size,2,none⟩) (by simp [*])).trans (by simp [go_sem, *]);have hB1:Hid (Bw w w1):=sqT hb1;clear hb1))
 all_goals
  go_ret
  refine ⟨Zf (by rw [HR.out];first|rfl|(split <;> first|rfl|(exfalso;simp_all;done)|(exfalso;simp_all;omega))),?_⟩
  first
   | exact (Below.refl _ _).alloc (Nat.le_refl _) _
   | exact hB1.out
theorem rCheck_4 (op n:Int) (hk:opdI op=4) (t:ByteArray) (b:Bool) (c m d:ByteArray) (ht:t.size≤maxLen) (w:World):Calls Tryz.prog 104 #[.agg #[.int .i64 op,.int .i64 n,.string t,.bool b,.string c,.string m,.string d]] w fun e w'=>e=.returned (.int .i64 (ickE op n t b c m d))∧Bw w w':=by
 have HO:=Zt op
 have HN:Hid (∀ w,_):=Z6 b c m d
 have HV:Hid (∀ w,_):=Yt t ht
 have HR:Hid (ickE op n t b c m d=if Z5 b c m d&&(n == 0)&&Zk t.data.toList then 0 else 1):=by rw [Hid,ickE,hk];rfl
 rw [hk] at HO
 have HO:Hid (∀ w,_):=HO
 generalize ickE op n t b c m d=x at *
 generalize Z5 b c m d=z at *
 generalize Zk t.data.toList=y at *
 clear ht
 clear hk
 obtain ⟨nz,hnz⟩:∃ nz,(n == 0)=nz:=⟨_,rfl⟩
 have hnz2:(n != 0)=!nz:=by rw [bne,hnz]
 rw [hnz] at HR
 cases z <;> cases nz <;> cases y
 all_goals go_enter Tryz.func104,Tryz.ntmps104
 all_goals go_wp2_with (first
  | (go_at_call 103;refine ((HO.out) _).mono ?_;rintro e w0 ⟨rfl,hw0⟩;rw [hw0];clear hw0 HO)
  | (go_at_call 121;refine ((HN.out) _).mono ?_;rintro e w1 ⟨rfl,hb1⟩;clear HN;have hs1:w.heap.size<w1.heap.size:=sqS hb1;have hc11:w1.cell? ⟨w.heap.size,1,none⟩=some (.int .i64 n):=(hb1.cell (p:=⟨w.heap.size,1,none⟩) (by simp [*])).trans (by simp [go_sem, *]);have hc12:w1.cell? ⟨w.heap.size,2,none⟩=some (.string t):=(hb1.cell (p:=⟨w.heap.size,2,none⟩) (by simp [*])).trans (by simp [go_sem, *]);have hB1:Hid (Bw w w1):=sqT hb1;clear hb1)
  | (go_at_call 57;refine ((HV.out) _).mono ?_;rintro e w2 ⟨rfl,hb2⟩;clear HV;have hs2:w.heap.size<w2.heap.size:=(by have:=hb2.size;first|omega|(simp at this;omega));have hB2:Hid (Bw w _):=Below.step hB1.out hb2))
 all_goals
  go_ret
  refine ⟨Zf (by rw [HR.out];rfl),?_⟩
  first
   | exact (Below.refl _ _).alloc (Nat.le_refl _) _
   | exact hB1.out
   | exact hB2.out
   | exact hB2.out.alloc hB2.out.size _
theorem rCheck_5 (op n:Int) (hk:opdI op=5) (t:ByteArray) (b:Bool) (c m d:ByteArray) (ht:t.size≤maxLen) (w:World):Calls Tryz.prog 104 #[.agg #[.int .i64 op,.int .i64 n,.string t,.bool b,.string c,.string m,.string d]] w fun e w'=>e=.returned (.int .i64 (ickE op n t b c m d))∧Bw w w':=by
 have HO:=Zt op
 have HN:Hid (∀ w,_):=Z6 b c m d
 have HV:Hid (∀ w,_):=Xd t ht
 have HR:Hid (ickE op n t b c m d=if Z5 b c m d&&(n == 0)&&(prfE t.data.toList == 0) then 0 else 1):=by rw [Hid,ickE,hk];rfl
 rw [hk] at HO
 have HO:Hid (∀ w,_):=HO
 generalize ickE op n t b c m d=x at *
 generalize Z5 b c m d=z at *
 generalize prfE t.data.toList=y at *
 generalize prfT t.data.toList=yt at *
 clear ht
 clear hk
 obtain ⟨nz,hnz⟩:∃ nz,(n == 0)=nz:=⟨_,rfl⟩
 have hnz2:(n != 0)=!nz:=by rw [bne,hnz]
 rw [hnz] at HR
 cases z <;> cases nz
 all_goals go_enter Tryz.func104,Tryz.ntmps104
 all_goals go_wp2_with (first
  | (go_at_call 103;refine ((HO.out) _).mono ?_;rintro e w0 ⟨rfl,hw0⟩;rw [hw0];clear hw0 HO)
  | (go_at_call 121;refine ((HN.out) _).mono ?_;rintro e w1 ⟨rfl,hb1⟩;clear HN;have hs1:w.heap.size<w1.heap.size:=sqS hb1;have hc11:w1.cell? ⟨w.heap.size,1,none⟩=some (.int .i64 n):=(hb1.cell (p:=⟨w.heap.size,1,none⟩) (by simp [*])).trans (by simp [go_sem, *]);have hc12:w1.cell? ⟨w.heap.size,2,none⟩=some (.string t):=(hb1.cell (p:=⟨w.heap.size,2,none⟩) (by simp [*])).trans (by simp [go_sem, *]);have hB1:Hid (Bw w w1):=sqT hb1;clear hb1)
  | (go_at_call 122;refine ((HV.out) _).mono ?_;rintro e w2 ⟨rfl,hb2⟩;clear HV;have hs2:w.heap.size<w2.heap.size:=(by have:=hb2.size;first|omega|(simp at this;omega));have hB2:Hid (Bw w _):=Below.step hB1.out hb2))
 all_goals
  go_ret
  refine ⟨Zf (by rw [HR.out];first|rfl|(split <;> first|rfl|(exfalso;simp_all;done)|(exfalso;simp_all;omega))),?_⟩
  first
   | exact (Below.refl _ _).alloc (Nat.le_refl _) _
   | exact hB1.out
   | exact hB2.out
   | exact hB2.out.alloc hB2.out.size _
theorem rCheck_6 (op n:Int) (hk:opdI op=6) (t:ByteArray) (b:Bool) (c m d:ByteArray) (ht:t.size≤maxLen) (w:World):Calls Tryz.prog 104 #[.agg #[.int .i64 op,.int .i64 n,.string t,.bool b,.string c,.string m,.string d]] w fun e w'=>e=.returned (.int .i64 (ickE op n t b c m d))∧Bw w w':=by
 have HO:=Zt op
 have HN:Hid (∀ w,_):=Z6 b c m d
 have HV:Hid (∀ w,_):=Zbd t ht
 have HR:Hid (ickE op n t b c m d=if Z5 b c m d&&(n == 0)&&(parE t.data.toList == 0)&&decide ((parT t.data.toList).1<255) then 0 else 1):=by rw [Hid,ickE,hk];rfl
 rw [hk] at HO
 have HO:Hid (∀ w,_):=HO
 generalize ickE op n t b c m d=x at *
 generalize Z5 b c m d=z at *
 generalize parE t.data.toList=y at *
 generalize parT t.data.toList=yt at *
 clear ht
 clear hk
 obtain ⟨nz,hnz⟩:∃ nz,(n == 0)=nz:=⟨_,rfl⟩
 have hnz2:(n != 0)=!nz:=by rw [bne,hnz]
 rw [hnz] at HR
 cases z <;> cases nz
 all_goals go_enter Tryz.func104,Tryz.ntmps104
 all_goals go_wp2_with (first
  | (go_at_call 103;refine ((HO.out) _).mono ?_;rintro e w0 ⟨rfl,hw0⟩;rw [hw0];clear hw0 HO)
  | (go_at_call 121;refine ((HN.out) _).mono ?_;rintro e w1 ⟨rfl,hb1⟩;clear HN;have hs1:w.heap.size<w1.heap.size:=sqS hb1;have hc11:w1.cell? ⟨w.heap.size,1,none⟩=some (.int .i64 n):=(hb1.cell (p:=⟨w.heap.size,1,none⟩) (by simp [*])).trans (by simp [go_sem, *]);have hc12:w1.cell? ⟨w.heap.size,2,none⟩=some (.string t):=(hb1.cell (p:=⟨w.heap.size,2,none⟩) (by simp [*])).trans (by simp [go_sem, *]);have hB1:Hid (Bw w w1):=sqT hb1;clear hb1)
  | (go_at_call 123;refine ((HV.out) _).mono ?_;rintro e w2 ⟨rfl,hb2⟩;clear HV;have hs2:w.heap.size<w2.heap.size:=(by have:=hb2.size;first|omega|(simp at this;omega));have hB2:Hid (Bw w _):=Below.step hB1.out hb2))
 all_goals
  go_ret
  refine ⟨Zf (by rw [HR.out];first|rfl|(split <;> first|rfl|(exfalso;simp_all;done)|(exfalso;simp_all;omega))),?_⟩
  first
   | exact (Below.refl _ _).alloc (Nat.le_refl _) _
   | exact hB1.out
   | exact hB2.out
   | exact hB2.out.alloc hB2.out.size _
theorem rCheck_7 (op n:Int) (hk:opdI op=7) (t:ByteArray) (b:Bool) (c m d:ByteArray) (ht:t.size≤maxLen) (w:World):Calls Tryz.prog 104 #[.agg #[.int .i64 op,.int .i64 n,.string t,.bool b,.string c,.string m,.string d]] w fun e w'=>e=.returned (.int .i64 (ickE op n t b c m d))∧Bw w w':=by
 have HO:=Zt op
 have HN:Hid (∀ w,_):=Z6 b c m d
 have HV:Hid (∀ w,_):=Xd t ht
 have HR:Hid (ickE op n t b c m d=if Z5 b c m d&&(prfE t.data.toList == 0)&&decide (1≤n)&&decide (n≤(prfT t.data.toList).1) then 0 else 1):=by rw [Hid,ickE,hk];rfl
 rw [hk] at HO
 have HO:Hid (∀ w,_):=HO
 generalize ickE op n t b c m d=x at *
 generalize Z5 b c m d=z at *
 generalize prfE t.data.toList=y at *
 generalize prfT t.data.toList=yt at *
 clear ht
 clear hk
 cases z
 all_goals go_enter Tryz.func104,Tryz.ntmps104
 all_goals go_wp2_with (first
  | (go_at_call 103;refine ((HO.out) _).mono ?_;rintro e w0 ⟨rfl,hw0⟩;rw [hw0];clear hw0 HO)
  | (go_at_call 121;refine ((HN.out) _).mono ?_;rintro e w1 ⟨rfl,hb1⟩;clear HN;have hs1:w.heap.size<w1.heap.size:=sqS hb1;have hc11:w1.cell? ⟨w.heap.size,1,none⟩=some (.int .i64 n):=(hb1.cell (p:=⟨w.heap.size,1,none⟩) (by simp [*])).trans (by simp [go_sem, *]);have hc12:w1.cell? ⟨w.heap.size,2,none⟩=some (.string t):=(hb1.cell (p:=⟨w.heap.size,2,none⟩) (by simp [*])).trans (by simp [go_sem, *]);have hB1:Hid (Bw w w1):=sqT hb1;clear hb1)
  | (go_at_call 122;refine ((HV.out) _).mono ?_;rintro e w2 ⟨rfl,hb2⟩;clear HV;have hs2:w.heap.size<w2.heap.size:=(by have:=hb2.size;first|omega|(simp at this;omega));have hc21:w2.cell? ⟨w.heap.size,1,none⟩=some (.int .i64 n):=(hb2.cell (p:=⟨w.heap.size,1,none⟩) (by simp [*])).trans (by simp [go_sem, *]);have hB2:Hid (Bw w _):=Below.step hB1.out hb2))
 all_goals
  go_ret
  refine ⟨Zf (by rw [HR.out];first|rfl|(split <;> first|rfl|(exfalso;simp_all;done)|(exfalso;simp_all;omega))),?_⟩
  first
   | exact (Below.refl _ _).alloc (Nat.le_refl _) _
   | exact hB1.out
   | exact hB2.out
   | exact hB2.out.alloc hB2.out.size _
theorem rCheck_8 (op n:Int) (hk:opdI op=8) (t:ByteArray) (b:Bool) (c m d:ByteArray) (hc:c.size≤maxLen) (hm:m.size≤maxLen) (hd:d.size≤maxLen) (w:World):Calls Tryz.prog 104 #[.agg #[.int .i64 op,.int .i64 n,.string t,.bool b,.string c,.string m,.string d]] w fun e w'=>e=.returned (.int .i64 (ickE op n t b c m d))∧Bw w w':=by
 have HO:=Zt op
 have HN:Hid (∀ w,_):=Z6 b c m d
 have HV:=Zb7 b c m d hc hm hd
 unfold rckE at HV
 have HV:Hid (∀ w,_):=HV
 have HR:Hid (ickE op n t b c m d=if (n == 0)&&t.toList.isEmpty&&rckB c.data.toList m.data.toList d.data.toList then 0 else 1):=by rw [Hid,ickE,hk];rfl
 rw [hk] at HO
 have HO:Hid (∀ w,_):=HO
 generalize ickE op n t b c m d=x at *
 generalize Z5 b c m d=z at *
 generalize rckB c.data.toList m.data.toList d.data.toList=y at *
 clear hc hm hd
 clear hk
 obtain ⟨nz,hnz⟩:∃ nz,(n == 0)=nz:=⟨_,rfl⟩
 have hnz2:(n != 0)=!nz:=by rw [bne,hnz]
 obtain ⟨te,hte⟩:∃ te,t.toList.isEmpty=te:=⟨_,rfl⟩
 rw [hnz,hte] at HR
 cases nz <;> cases te <;> cases y
 all_goals go_enter Tryz.func104,Tryz.ntmps104
 all_goals go_wp2_with (first
  | (go_at_call 103;refine ((HO.out) _).mono ?_;rintro e w0 ⟨rfl,hw0⟩;rw [hw0];clear hw0 HO)
  | (go_at_call 124;refine ((HV.out) _).mono ?_;rintro e w2 ⟨rfl,hb2⟩;clear HV;have hs2:w.heap.size<w2.heap.size:=(by have:=hb2.size;first|omega|(simp at this;omega));have hB2:Hid (Bw w _):=sqT hb2))
 all_goals
  go_ret
  refine ⟨Zf (by rw [HR.out];rfl),?_⟩
  first
   | exact (Below.refl _ _).alloc (Nat.le_refl _) _
   | exact hB2.out
   | exact hB2.out.alloc hB2.out.size _
theorem Zgj (op n:Int) (t:ByteArray) (b:Bool) (c m d:ByteArray) (ht:t.size≤maxLen) (hc:c.size≤maxLen) (hm:m.size≤maxLen) (hd:d.size≤maxLen) (w:World):Calls Tryz.prog 104 #[.agg #[.int .i64 op,.int .i64 n,.string t,.bool b,.string c,.string m,.string d]] w fun e w'=>e=.returned (.int .i64 (ickE op n t b c m d))∧Bw w w':=by
 rcases Xo op with h|h|h|h|h|h|h|h|h|h
 ·exact Zeo op n h t b c m d w
 ·exact rCheck_0 op n h t b c m d w
 ·exact rCheck_1 op n h t b c m d w
 ·exact rCheck_2 op n h t b c m d w
 ·exact rCheck_3 op n h t b c m d w
 ·exact rCheck_4 op n h t b c m d ht w
 ·exact rCheck_5 op n h t b c m d ht w
 ·exact rCheck_6 op n h t b c m d ht w
 ·exact rCheck_7 op n h t b c m d ht w
 ·exact rCheck_8 op n h t b c m d hc hm hd w
structure Ins where
 op:Int
 n:Int
 t:ByteArray
 b:Bool
 c:ByteArray
 m:ByteArray
 d:ByteArray
def insC (i:Ins):List Value:=[.int .i64 i.op,.int .i64 i.n,.string i.t,.bool i.b,.string i.c,.string i.m,.string i.d]
def insV (i:Ins):Value:=.agg (insC i).toArray
def Yr (l:List Ins):List Value:=l.flatMap insC
theorem Yk (l:List Ins):(Yr l).length=l.length * 7:=by
 induction l with
 | nil=>rfl
 | cons t ts ih=>simp only [Yr,List.flatMap_cons,List.length_append,insC] at *;rw [ih];simp;omega
theorem flatI_at (l:List Ins) (k:Nat) (i:Ins) (h:l[k]?=some i):(Yr l)[k * 7]?=some (.int .i64 i.op)∧(Yr l)[k * 7+1]?=some (.int .i64 i.n)∧(Yr l)[k * 7+2]?=some (.string i.t)∧(Yr l)[k * 7+3]?=some (.bool i.b)∧(Yr l)[k * 7+4]?=some (.string i.c)∧(Yr l)[k * 7+5]?=some (.string i.m)∧(Yr l)[k * 7+6]?=some (.string i.d):=by
 induction l generalizing k with
 | nil=>simp at h
 | cons u ts ih =>
   have e:Yr (u::ts)=.int .i64 u.op::.int .i64 u.n::.string u.t::.bool u.b::.string u.c::.string u.m::.string u.d::Yr ts:=by simp [Yr,insC]
   rw [e]
   cases k with
   | zero=>simp at h;subst h;exact ⟨rfl,rfl,rfl,rfl,rfl,rfl,rfl⟩
   | succ k =>
     simp at h
     have:=ih k h
     rw [show (k+1) * 7=k * 7+1+1+1+1+1+1+1 by omega,show k * 7+1+1+1+1+1+1+1+1=k * 7+1+1+1+1+1+1+1+1 by rfl]
     simp only [show ∀ j,k * 7+1+1+1+1+1+1+1+j=k * 7+j+1+1+1+1+1+1+1 from fun j=>by omega,List.getElem?_cons_succ]
     exact this
def InsAt (w:World) (bk o:Nat) (i:Ins):Prop :=
 w.cell? ⟨bk,o,none⟩=some (.int .i64 i.op)∧w.cell? ⟨bk,o+1,none⟩=some (.int .i64 i.n)∧w.cell? ⟨bk,o+2,none⟩=some (.string i.t)∧w.cell? ⟨bk,o+3,none⟩=some (.bool i.b)∧w.cell? ⟨bk,o+4,none⟩=some (.string i.c)∧w.cell? ⟨bk,o+5,none⟩=some (.string i.m)∧w.cell? ⟨bk,o+6,none⟩=some (.string i.d)
theorem InsAt.keep {w w':World} {N bk o:Nat} {i:Ins} (h:InsAt w bk o i) (hb:Below N w w') (hlt:bk<N):InsAt w' bk o i :=
 ⟨(hb.cell hlt).trans h.1,(hb.cell hlt).trans h.2.1,(hb.cell hlt).trans h.2.2.1,(hb.cell hlt).trans h.2.2.2.1,(hb.cell hlt).trans h.2.2.2.2.1,(hb.cell hlt).trans h.2.2.2.2.2.1,(hb.cell hlt).trans h.2.2.2.2.2.2⟩
def IsInss (w:World) (v:Value) (l:List Ins):Prop :=
 ∃ ao cap,v=.slice ao l.length cap∧l.length≤cap∧cap≤maxLen ∧
   (l≠[]→∃ bk o,ao=some ⟨bk,o,none⟩∧bk<w.heap.size∧∀ k i,l[k]?=some i→InsAt w bk (o+k * 7) i)
theorem IsInss.keep {w w':World} {v:Value} {l:List Ins} (h:IsInss w v l) (hb:Bw w w'):IsInss w' v l:=by
 obtain ⟨ao,cap,rfl,h1,h2,h3⟩:=h
 refine ⟨ao,cap,rfl,h1,h2,fun hne=>?_⟩
 obtain ⟨bk,o,e,hlt,hc⟩:=h3 hne
 exact ⟨bk,o,e,Nat.lt_of_lt_of_le hlt hb.size,fun k i hk=>(hc k i hk).keep hb hlt⟩
def Qm (a b:Ins):Bool:=(a.op == b.op)&&(a.n == b.n)&&(a.t.toList == b.t.toList)&&Z2 a.b a.c a.m a.d b.b b.c b.m b.d
def Xc:List Ins→List Ins→Bool
 | [],[]=>true
 | x::a,y::b=>Qm x y&&Xc a b
 | _,_=>false
theorem Zhp {a b:List Ins} (h:a.length≠b.length):Xc a b=false:=by
 induction a generalizing b with
 | nil=>cases b with
   | nil=>exact absurd rfl h
   | cons y b=>rfl
 | cons x a ih=>cases b with
   | nil=>rfl
   | cons y b=>rw [Xc,ih (fun e=>h (by simp [e]))];simp
theorem sameL_at {a b:List Ins} (k:Nat) (x y:Ins) (ha:a[k]?=some x) (hb:b[k]?=some y):Xc (a.drop k) (b.drop k)=(Qm x y&&Xc (a.drop (k+1)) (b.drop (k+1))):=by
 obtain ⟨h1,h2⟩:=List.getElem?_eq_some_iff.1 ha
 obtain ⟨h3,h4⟩:=List.getElem?_eq_some_iff.1 hb
 rw [List.drop_eq_getElem_cons h1,List.drop_eq_getElem_cons h3,h2,h4,Xc]
theorem Zb6 (va vb:Value) (la lb:List Ins) (W:World) (ha:IsInss W va la) (hb:IsInss W vb lb):Calls Tryz.prog 64 #[va,vb] W fun e w'=>e=.returned (.bool (Xc la lb))∧Bw W w':=by
 obtain ⟨aa,ca,rfl,a1,a2,a3⟩:=ha
 obtain ⟨ab,cb,rfl,b1,b2,b3⟩:=hb
 unfold maxLen at a2 b2
 by_cases hl:la.length=lb.length
 ·obtain ⟨N,hN⟩:∃ N,la.length=N:=⟨_,rfl⟩
  have hM:lb.length=N:=by omega
  rw [hN] at a1 ⊢
  rw [hM] at b1 ⊢
  have HN1:Hid (la.length=N):=hN
  have HM1:Hid (lb.length=N):=hM
  clear hl hN hM
  have HA:Hid _:=a3
  have HB:Hid _:=b3
  clear a3 b3
  go_enter Tryz.func64,Tryz.ntmps64
  go_wp2
  go_loopw [5] (fun iv wr=>∃ i:Nat,iv=.int .i64 i∧i≤N∧Hid (Bw W wr)∧Hid (Xc (la.drop i) (lb.drop i)=Xc la lb)) (fun iv _=>N - (intOf iv).toNat)
  case atStart=>exact ⟨0,rfl,Nat.zero_le _,Below.refl _ _,rfl⟩
  case round =>
   obtain ⟨i,rfl,hi,hb,hs⟩:=hrel
   by_cases hlt:i<N
   ·obtain ⟨ba,oa,hao,hba,hca⟩:=HA.out (by intro e;have:=HN1.out;rw [e] at this;simp at this;omega)
    obtain ⟨bb,ob,hbo,hbb,hcb⟩:=HB.out (by intro e;have:=HM1.out;rw [e] at this;simp at this;omega)
    obtain ⟨x,hx⟩:∃ x,la[i]?=some x:=⟨_,List.getElem?_eq_getElem (by rw [HN1.out];exact hlt)⟩
    obtain ⟨y,hy⟩:∃ y,lb[i]?=some y:=⟨_,List.getElem?_eq_getElem (by rw [HM1.out];exact hlt)⟩
    subst hao hbo
    have hst:=sameL_at i x y hx hy
    rw [hs.out] at hst
    have ka:=(hca i x hx).keep hb.out hba
    have kb:=(hcb i y hy).keep hb.out hbb
    have HS:Hid (∀ w,_):=Zh1 x.op x.n x.t x.b x.c x.m x.d y.op y.n y.t y.b y.c y.m y.d
    have hsi:Qm x y=((x.op == y.op)&&(x.n == y.n)&&(x.t.toList == y.t.toList)&&Z2 x.b x.c x.m x.d y.b y.c y.m y.d):=rfl
    rw [← hsi] at HS
    clear hsi hca hcb hs HA HB hx hy
    obtain ⟨xo,xn,xt,xb,xc,xm,xd⟩:=x
    obtain ⟨yo,yn,yt,yb,yc,ym,yd⟩:=y
    generalize Qm _ _=q at *
    obtain ⟨p0,p1,p2,p3,p4,p5,p6⟩:=ka
    obtain ⟨q0,q1,q2,q3,q4,q5,q6⟩:=kb
    simp only at p0 p1 p2 p3 p4 p5 p6 q0 q1 q2 q3 q4 q5 q6 HS
    cases q with
    | true =>
      have HN:Hid (Xc (la.drop (i+1)) (lb.drop (i+1))=Xc la lb):=by rw [Hid,hst];simp
      clear hst
      go_wp2
      go_region_with (go_at_call 87;refine (HS.out _).mono ?_;rintro e w1 ⟨rfl,hb1⟩;have hB1:Hid (Bw W w1):=Below.step hb.out.drew hb1;clear hb1)
      all_goals
       go_wp2
       go_roundw
       case rel=>exact ⟨i+1,by go_num,by omega,hB1,HN⟩
       case measure=>simp [intOf];omega
    | false =>
      have HN:Hid (Xc la lb=false):=by rw [Hid,hst];rfl
      clear hst
      go_wp2
      go_region_with (go_at_call 87;refine (HS.out _).mono ?_;rintro e w1 ⟨rfl,hb1⟩;have hB1:Hid (Bw W w1):=Below.step hb.out.drew hb1;clear hb1)
      all_goals
       go_wp2
       go_ret
       exact ⟨Za HN.out.symm,hB1.out⟩
   ·have HN:Hid (Xc la lb=true):=by
     rw [Hid,← hs.out,List.drop_of_length_le (by rw [HN1.out];omega),List.drop_of_length_le (by rw [HM1.out];omega)];rfl
    clear HA HB hs
    go_wp2
    go_ret
    exact ⟨Za HN.out.symm,hb.out⟩
 ·have hl':((la.length:Int) != lb.length)=true:=by rw [bne_iff_ne];omega
  have HN:Hid (Xc la lb=false):=Zhp hl
  clear a3 b3
  go_enter Tryz.func64,Tryz.ntmps64
  go_wp2
  go_ret
  exact ⟨Za HN.out.symm,Below.refl _ _⟩
def ickI (i:Ins):Int:=ickE i.op i.n i.t i.b i.c i.m i.d
def badI (locals len:Int) (i:Ins):Bool:=(ickI i != 0)||((opdI i.op == 2)&&decide (locals≤i.n))||((opdI i.op == 3)&&decide (len≤i.n))
def allE (l:List Ins) (locals:Int):Int:=if l.length<1∨200<l.length then 1 else if l.any (badI locals l.length) then 1 else 0
def Ze7 (i:Ins):Prop:=i.t.size≤maxLen∧i.c.size≤maxLen∧i.m.size≤maxLen∧i.d.size≤maxLen
theorem any_at {l:List Ins} {p:Ins→Bool} (k:Nat) (x:Ins) (h:l[k]?=some x):(l.drop k).any p=(p x||(l.drop (k+1)).any p):=by
 obtain ⟨h1,h2⟩:=List.getElem?_eq_some_iff.1 h
 rw [List.drop_eq_getElem_cons h1,h2,List.any_cons]
theorem ick_01 (op n:Int) (t:ByteArray) (b:Bool) (c m d:ByteArray):ickE op n t b c m d=0∨ickE op n t b c m d=1:=by
 unfold ickE;split <;> simp
theorem Zb9 (v:Value) (l:List Ins) (locals:Int) (W:World) (h:IsInss W v l) (hok:∀ i∈l,Ze7 i):Calls Tryz.prog 85 #[v,.int .i64 locals] W fun e w'=>e=.returned (.int .i64 (allE l locals))∧Bw W w':=by
 obtain ⟨ao,cap,rfl,h1,h2,h3⟩:=h
 obtain ⟨N,hN⟩:∃ N,l.length=N:=⟨_,rfl⟩
 unfold maxLen at h2
 have HE:Hid (allE l locals=if N<1∨200<N then 1 else if l.any (badI locals N) then 1 else 0):=by rw [Hid,allE,hN]
 rw [hN] at h1 ⊢
 have HN1:Hid (l.length=N):=hN
 have HA:Hid _:=h3
 have HOK:Hid _:=hok
 clear hN h3 hok
 by_cases hlen:N<1∨200<N
 ·have HZ:Hid (allE l locals=1):=by rw [Hid,HE.out,if_pos hlen]
  clear HE HA HOK HN1
  rcases hlen with hlen|hlen
  ·have hlen2:(N:Int)<1:=by omega
   go_enter Tryz.func85,Tryz.ntmps85
   go_wp2
   go_ret
   exact ⟨Zf HZ.out.symm,Below.refl _ _⟩
  ·have hlen2:¬ (N:Int)<1:=by omega
   have hlen3:(200:Int)<N:=by omega
   go_enter Tryz.func85,Tryz.ntmps85
   go_wp2
   go_ret
   exact ⟨Zf HZ.out.symm,Below.refl _ _⟩
 ·have hlo:1≤N:=by omega
  have hhi:N≤200:=by omega
  have HE2:Hid (allE l locals=if l.any (badI locals N) then 1 else 0):=by rw [Hid,HE.out,if_neg hlen]
  have hlen2:¬ (N:Int)<1:=by omega
  have hlen3:¬ (200:Int)<N:=by omega
  clear HE hlen
  go_enter Tryz.func85,Tryz.ntmps85
  go_wp2
  go_loopw [5] (fun iv wr=>∃ i:Nat,iv=.int .i64 i∧i≤N∧Hid (Bw W wr)∧Hid ((l.drop i).any (badI locals N)=l.any (badI locals N))) (fun iv _=>N - (intOf iv).toNat)
  case atStart=>exact ⟨0,rfl,Nat.zero_le _,Below.refl _ _,rfl⟩
  case round =>
   obtain ⟨i,rfl,hi,hb,hs⟩:=hrel
   by_cases hlt:i<N
   ·obtain ⟨bk,o,hao,hbk,hc⟩:=HA.out (by intro e;have:=HN1.out;rw [e] at this;simp at this;omega)
    obtain ⟨x,hx⟩:∃ x,l[i]?=some x:=⟨_,List.getElem?_eq_getElem (by rw [HN1.out];exact hlt)⟩
    subst hao
    have hst:=any_at (p:=badI locals N) i x hx
    rw [hs.out] at hst
    have hcx:=hc i x hx
    obtain ⟨k1,k2,k3,k4⟩:=HOK.out x (List.mem_of_getElem? hx)
    have HO:Hid (∀ w,_):=Zt x.op
    have HC:=Zgj x.op x.n x.t x.b x.c x.m x.d k1 k2 k3 k4
    have hbad:badI locals N x=((ickE x.op x.n x.t x.b x.c x.m x.d != 0)||((opdI x.op == 2)&&decide (locals≤x.n))||((opdI x.op == 3)&&decide ((N:Int)≤x.n))):=rfl
    have h01:=ick_01 x.op x.n x.t x.b x.c x.m x.d
    obtain ⟨xo,xn,xt,xb,xc,xm,xd⟩:=x
    simp only at HO HC hbad h01
    generalize ickE xo xn xt xb xc xm xd=ck at *
    generalize badI locals N _=bad at *
    generalize opdI xo=kk at *
    obtain ⟨p0,p1,p2,p3,p4,p5,p6⟩:=hcx.keep hb.out hbk
    simp only at p0 p1 p2 p3 p4 p5 p6
    have hbk2:bk<wr.heap.size:=Nat.lt_of_lt_of_le hbk hb.out.size
    have HC:Hid (∀ w,_):=HC
    clear hc hcx HA HOK hx k1 k2 k3 k4 hs
    rcases h01 with rfl|rfl
    ·by_cases e2:kk=2
     ·by_cases hl:locals≤xn
      ·have g0:((0:Int) != 0)=false:=rfl
       have g2:(kk == 2)=true:=by rw [e2];rfl
       have g3:(kk == 3)=false:=by rw [e2];rfl
       have gl:decide (locals≤xn)=true:=by simpa using hl
       have HF:Hid (allE l locals=1):=by rw [Hid,HE2.out,hst,show bad=true by rw [hbad];simp [*]];rfl
       clear hst hbad HE2
       go_wp2_with (first
        | (go_at_call 103;refine (HO.out _).mono ?_;rintro e w3 ⟨rfl,hw3⟩;rw [hw3];clear hw3 HO)
        | (go_at_call 104;refine (HC.out _).mono ?_;rintro e w1 ⟨rfl,hb1⟩;have c1:w1.cell? ⟨bk,o+i * 7+1,none⟩=some (.int .i64 xn):=(hb1.cell (p:=⟨bk,o+i * 7+1,none⟩) hbk2).trans p1;have hB1:Hid (Bw W w1):=Below.step hb.out hb1;clear hb1 HC))
       go_ret
       exact ⟨Zf HF.out.symm,hB1.out⟩
      ·have g0:((0:Int) != 0)=false:=rfl
       have g2:(kk == 2)=true:=by rw [e2];rfl
       have g3:(kk == 3)=false:=by rw [e2];rfl
       have gl:decide (locals≤xn)=false:=by simpa using hl
       have HF:Hid ((l.drop (i+1)).any (badI locals N)=l.any (badI locals N)):=by rw [Hid,hst,show bad=false by rw [hbad];simp [*]];simp
       clear hst hbad HE2
       go_wp2_with (first
        | (go_at_call 103;refine (HO.out _).mono ?_;rintro e w3 ⟨rfl,hw3⟩;rw [hw3];clear hw3 HO)
        | (go_at_call 104;refine (HC.out _).mono ?_;rintro e w1 ⟨rfl,hb1⟩;have c1:w1.cell? ⟨bk,o+i * 7+1,none⟩=some (.int .i64 xn):=(hb1.cell (p:=⟨bk,o+i * 7+1,none⟩) hbk2).trans p1;have hB1:Hid (Bw W w1):=Below.step hb.out hb1;clear hb1 HC))
       go_roundw
       case rel=>exact ⟨i+1,by go_num,by omega,hB1,HF⟩
       case measure=>simp [intOf];omega
     ·by_cases e3:kk=3
      ·by_cases hl:(N:Int)≤xn
       ·have g0:((0:Int) != 0)=false:=rfl
        have g2:(kk == 2)=false:=by rw [e3];rfl
        have g3:(kk == 3)=true:=by rw [e3];rfl
        have gl:decide ((N:Int)≤xn)=true:=by simpa using hl
        have HF:Hid (allE l locals=1):=by rw [Hid,HE2.out,hst,show bad=true by rw [hbad];simp [*]];rfl
        clear hst hbad HE2
        go_wp2_with (first
         | (go_at_call 103;refine (HO.out _).mono ?_;rintro e w3 ⟨rfl,hw3⟩;rw [hw3];clear hw3 HO)
         | (go_at_call 104;refine (HC.out _).mono ?_;rintro e w1 ⟨rfl,hb1⟩;have c1:w1.cell? ⟨bk,o+i * 7+1,none⟩=some (.int .i64 xn):=(hb1.cell (p:=⟨bk,o+i * 7+1,none⟩) hbk2).trans p1;have hB1:Hid (Bw W w1):=Below.step hb.out hb1;clear hb1 HC))
        go_ret
        exact ⟨Zf HF.out.symm,hB1.out⟩
       ·have g0:((0:Int) != 0)=false:=rfl
        have g2:(kk == 2)=false:=by rw [e3];rfl
        have g3:(kk == 3)=true:=by rw [e3];rfl
        have gl:decide ((N:Int)≤xn)=false:=by simpa using hl
        have HF:Hid ((l.drop (i+1)).any (badI locals N)=l.any (badI locals N)):=by rw [Hid,hst,show bad=false by rw [hbad];simp [*]];simp
        clear hst hbad HE2
        go_wp2_with (first
         | (go_at_call 103;refine (HO.out _).mono ?_;rintro e w3 ⟨rfl,hw3⟩;rw [hw3];clear hw3 HO)
         | (go_at_call 104;refine (HC.out _).mono ?_;rintro e w1 ⟨rfl,hb1⟩;have c1:w1.cell? ⟨bk,o+i * 7+1,none⟩=some (.int .i64 xn):=(hb1.cell (p:=⟨bk,o+i * 7+1,none⟩) hbk2).trans p1;have hB1:Hid (Bw W w1):=Below.step hb.out hb1;clear hb1 HC))
        go_roundw
        case rel=>exact ⟨i+1,by go_num,by omega,hB1,HF⟩
        case measure=>simp [intOf];omega
      ·have g0:((0:Int) != 0)=false:=rfl
       have g2:(kk == 2)=false:=by simpa using e2
       have g3:(kk == 3)=false:=by simpa using e3
       have HF:Hid ((l.drop (i+1)).any (badI locals N)=l.any (badI locals N)):=by rw [Hid,hst,show bad=false by rw [hbad];simp [*]];simp
       clear hst hbad HE2
       go_wp2_with (first
        | (go_at_call 103;refine (HO.out _).mono ?_;rintro e w3 ⟨rfl,hw3⟩;rw [hw3];clear hw3 HO)
        | (go_at_call 104;refine (HC.out _).mono ?_;rintro e w1 ⟨rfl,hb1⟩;have c1:w1.cell? ⟨bk,o+i * 7+1,none⟩=some (.int .i64 xn):=(hb1.cell (p:=⟨bk,o+i * 7+1,none⟩) hbk2).trans p1;have hB1:Hid (Bw W w1):=Below.step hb.out hb1;clear hb1 HC))
       go_roundw
       case rel=>exact ⟨i+1,by go_num,by omega,hB1,HF⟩
       case measure=>simp [intOf];omega
    ·have g0:((1:Int) != 0)=true:=rfl
     have HF:Hid (allE l locals=1):=by rw [Hid,HE2.out,hst,show bad=true by rw [hbad];simp [*]];rfl
     clear hst hbad HE2
     go_wp2_with (first
      | (go_at_call 103;refine (HO.out _).mono ?_;rintro e w3 ⟨rfl,hw3⟩;rw [hw3];clear hw3 HO)
      | (go_at_call 104;refine (HC.out _).mono ?_;rintro e w1 ⟨rfl,hb1⟩;have c1:w1.cell? ⟨bk,o+i * 7+1,none⟩=some (.int .i64 xn):=(hb1.cell (p:=⟨bk,o+i * 7+1,none⟩) hbk2).trans p1;have hB1:Hid (Bw W w1):=Below.step hb.out hb1;clear hb1 HC))
     go_ret
     exact ⟨Zf HF.out.symm,hB1.out⟩
   ·have HF:Hid (allE l locals=0):=by
     rw [Hid,HE2.out,← hs.out,List.drop_of_length_le (by rw [HN1.out];omega)];rfl
    clear HA HOK hs HE2
    go_wp2
    go_ret
    exact ⟨Zf HF.out.symm,hb.out⟩
end Go.Proofs.YtkoogmegdfpopaaGreat
