import Derived.Test.YtkoogmegdfpopaaGreatShpB
set_option maxRecDepth 100000
namespace Go.Proofs.YtkoogmegdfpopaaGreat
open Go.RowKit
def mthB (m:Mth) (iface:Bool):Bool :=
 Z3 m.nm.data.toList&&(chkM m.fl iface (m.nm.toList == [60,105,110,105,116,62]) == 0)&&(pdE m.ds.data.toList == 0)&&!((m.nm.toList == [60,105,110,105,116,62])&&!X6 (pdD m.ds.data.toList).2) &&
  (if hasI m.fl 1024 then (m.lo == 0) && (m.st == 0) && ((m.code.length : Int) == 0)
   else !decide (m.st<0)&&!decide (40<m.st)&&!decide (m.lo<wdsN m.ds.data.toList m.fl)&&!decide (40<m.lo)&&(allE m.code m.lo == 0))
set_option maxHeartbeats 4000000 in
theorem Zej (nm ds:ByteArray) (fl lo st:Int) (vc:Value) (code:List Ins) (iface:Bool) (hn:nm.size≤maxLen) (hd:ds.size≤maxLen) (w:World) (hI:IsInss w vc code) (hok:∀ i∈code,Ze7 i) :
 Calls Tryz.prog 59 #[.agg #[.string nm,.string ds,.int .i64 fl,.int .i64 lo,.int .i64 st,vc],.bool iface] w fun e w'=>e=.returned (.bool (mthB ⟨nm,ds,fl,lo,st,code⟩ iface))∧Bw w w':=by
 have HM:Hid (∀ w,_):=Zaj nm hn
 have HCM:Hid (∀ w,_):=J1 fl iface nm
 have HD:Hid (∀ w,_):=Y5 ds hd
 have HH:Hid (∀ w,_):=Xg fl 1024
 have HI:Hid (IsInss w vc code):=hI
 have HW:Hid (∀ w,_):=Zei nm ds fl lo st vc hd
 have HCA:Hid (∀ w',IsInss w' vc code→_):=fun w' h=>Zb9 vc code lo w' h hok
 have HR:Hid (mthB ⟨nm,ds,fl,lo,st,code⟩ iface=(Z3 nm.data.toList&&(chkM fl iface (nm.toList == [60,105,110,105,116,62]) == 0)&&(pdE ds.data.toList == 0)&&!((nm.toList == [60,105,110,105,116,62])&&!X6 (pdD ds.data.toList).2) &&
  (if hasI fl 1024 then (lo == 0) && (st == 0) && ((code.length : Int) == 0)
   else !decide (st<0)&&!decide (40<st)&&!decide (lo<wdsN ds.data.toList fl)&&!decide (40<lo)&&(allE code lo == 0)))):=rfl
 unfold DOut at HD
 obtain ⟨ao,cap,rfl,h1,h2,_⟩:=hI
 unfold maxLen at h2
 clear hn hd hok
 obtain ⟨K,hK⟩:∃ K,code.length=K:=⟨_,rfl⟩
 rw [hK] at h1 HI HW HCA HR ⊢
 clear hK
 generalize mthB ⟨nm,ds,fl,lo,st,code⟩ iface=z at *
 generalize Z3 nm.data.toList=mm at *
 generalize qi:(nm.toList == [60,105,110,105,116,62])=ini at *
 generalize chkM fl iface ini=ck at *
 generalize wdsN ds.data.toList fl=wn at *
 generalize wdsE ds.data.toList=we at *
 generalize pdE ds.data.toList=pd at *
 generalize (pdD ds.data.toList).1=pa at *
 generalize (pdD ds.data.toList).2=pr at *
 generalize X6 pr=vd at *
 generalize hasI fl 1024=hh at *
 generalize allE code lo=al at *
 cases mm with
 | false =>
   go_enter Tryz.func59,Tryz.ntmps59
   go_wp2_with (first
    | (go_at_call 81;refine ((HM.out) _).mono ?_;rintro e w0 ⟨rfl,hw0⟩;rw [hw0];clear hw0))
   go_ret
   exact ⟨Za (by rw [HR.out];simp [*]),(Below.refl _ _).alloc (Nat.le_refl _) _⟩
 | true =>
   by_cases hck:¬ ck=0
   ·have hne:(ck != 0)=true:=by rw [bne_iff_ne];exact hck
    have hne2:(ck == 0)=false:=by rw [beq_eq_false_iff_ne];exact hck
    go_enter Tryz.func59,Tryz.ntmps59
    go_wp2_with (first
     | (go_at_call 81;refine ((HM.out) _).mono ?_;rintro e w0 ⟨rfl,hw0⟩;rw [hw0];clear hw0)
     | (go_at_call 82;refine ((HCM.out) _).mono ?_;rintro e w1 ⟨rfl,hb1⟩;have hs1:w.heap.size<w1.heap.size:=sqS hb1;obtain ⟨a0,a1,a2,a3,a4,a5⟩:=sqX hb1 w.heap.size (.string nm) (.string ds) (.int .i64 fl) (.int .i64 lo) (.int .i64 st) (.slice ao K cap);have B1:Hid (Bw w w1):=sqT hb1;clear hb1))
    go_ret
    exact ⟨Za (by rw [HR.out];simp [*]),B1.out⟩
   have hck2:ck=0:=by omega
   clear hck
   subst hck2
   by_cases hpd:¬ pd=0
   ·have hne:(pd != 0)=true:=by rw [bne_iff_ne];exact hpd
    have hne2:(pd == 0)=false:=by rw [beq_eq_false_iff_ne];exact hpd
    go_enter Tryz.func59,Tryz.ntmps59
    go_wp2_with (first
     | (go_at_call 81;refine ((HM.out) _).mono ?_;rintro e w0 ⟨rfl,hw0⟩;rw [hw0];clear hw0)
     | (go_at_call 82;refine ((HCM.out) _).mono ?_;rintro e w1 ⟨rfl,hb1⟩;have hs1:w.heap.size<w1.heap.size:=sqS hb1;obtain ⟨a0,a1,a2,a3,a4,a5⟩:=sqX hb1 w.heap.size (.string nm) (.string ds) (.int .i64 fl) (.int .i64 lo) (.int .i64 st) (.slice ao K cap);have B1:Hid (Bw w w1):=sqT hb1;clear hb1)
     | (go_at_call 83;refine ((HD.out) _).mono ?_;rintro e w2 ⟨v,rfl,ho2,hb2⟩;obtain ⟨v1,v2,rfl⟩:=Zd ho2;have hs2:w.heap.size<w2.heap.size:=(by have:=hb2.size;omega);have b0:=sqB hb2 w.heap.size 0 (.string nm) hs1;have b1:=sqB hb2 w.heap.size 1 (.string ds) hs1;have b2:=sqB hb2 w.heap.size 2 (.int .i64 fl) hs1;have b3:=sqB hb2 w.heap.size 3 (.int .i64 lo) hs1;have b4:=sqB hb2 w.heap.size 4 (.int .i64 st) hs1;have b5:=sqB hb2 w.heap.size 5 (.slice ao K cap) hs1;clear a0 a1 a2 a3 a4 a5;have B2:Hid (Bw w w2):=Below.step B1.out hb2;clear hb2 ho2))
    go_ret
    exact ⟨Za (by rw [HR.out];simp [*]),B2.out.alloc B2.out.size _⟩
   have hpd2:pd=0:=by omega
   clear hpd
   subst hpd2
   by_cases hv:ini=true∧vd=false
   ·obtain ⟨rfl,rfl⟩:=hv
    go_enter Tryz.func59,Tryz.ntmps59
    go_wp2_with (first
     | (go_at_call 81;refine ((HM.out) _).mono ?_;rintro e w0 ⟨rfl,hw0⟩;rw [hw0];clear hw0)
     | (go_at_call 82;refine ((HCM.out) _).mono ?_;rintro e w1 ⟨rfl,hb1⟩;have hs1:w.heap.size<w1.heap.size:=sqS hb1;obtain ⟨a0,a1,a2,a3,a4,a5⟩:=sqX hb1 w.heap.size (.string nm) (.string ds) (.int .i64 fl) (.int .i64 lo) (.int .i64 st) (.slice ao K cap);have B1:Hid (Bw w w1):=sqT hb1;clear hb1)
     | (go_at_call 83;refine ((HD.out) _).mono ?_;rintro e w2 ⟨v,rfl,ho2,hb2⟩;obtain ⟨v1,v2,rfl⟩:=Zd ho2;have hs2:w.heap.size<w2.heap.size:=(by have:=hb2.size;omega);have b0:=sqB hb2 w.heap.size 0 (.string nm) hs1;have b1:=sqB hb2 w.heap.size 1 (.string ds) hs1;have b2:=sqB hb2 w.heap.size 2 (.int .i64 fl) hs1;have b3:=sqB hb2 w.heap.size 3 (.int .i64 lo) hs1;have b4:=sqB hb2 w.heap.size 4 (.int .i64 st) hs1;have b5:=sqB hb2 w.heap.size 5 (.slice ao K cap) hs1;clear a0 a1 a2 a3 a4 a5;have B2:Hid (Bw w w2):=Below.step B1.out hb2;clear hb2 ho2))
    go_ret
    exact ⟨Za (by rw [HR.out];simp [*]),B2.out.alloc B2.out.size _⟩
   have hvv:ini=false∨(ini=true∧vd=true):=by cases ini <;> cases vd <;> simp_all
   clear hv
   cases hh with
   | true =>
     cases q1:(lo == 0) with
     | false =>
       rcases hvv with rfl|⟨rfl,rfl⟩
       all_goals
        go_enter Tryz.func59,Tryz.ntmps59
        go_wp2_with (first
         | (go_at_call 81;refine ((HM.out) _).mono ?_;rintro e w0 ⟨rfl,hw0⟩;rw [hw0];clear hw0)
         | (go_at_call 82;refine ((HCM.out) _).mono ?_;rintro e w1 ⟨rfl,hb1⟩;have hs1:w.heap.size<w1.heap.size:=sqS hb1;obtain ⟨a0,a1,a2,a3,a4,a5⟩:=sqX hb1 w.heap.size (.string nm) (.string ds) (.int .i64 fl) (.int .i64 lo) (.int .i64 st) (.slice ao K cap);have B1:Hid (Bw w w1):=sqT hb1;clear hb1)
         | (go_at_call 83;refine ((HD.out) _).mono ?_;rintro e w2 ⟨v,rfl,ho2,hb2⟩;obtain ⟨v1,v2,rfl⟩:=Zd ho2;have hs2:w.heap.size<w2.heap.size:=(by have:=hb2.size;omega);have b0:=sqB hb2 w.heap.size 0 (.string nm) hs1;have b1:=sqB hb2 w.heap.size 1 (.string ds) hs1;have b2:=sqB hb2 w.heap.size 2 (.int .i64 fl) hs1;have b3:=sqB hb2 w.heap.size 3 (.int .i64 lo) hs1;have b4:=sqB hb2 w.heap.size 4 (.int .i64 st) hs1;have b5:=sqB hb2 w.heap.size 5 (.slice ao K cap) hs1;clear a0 a1 a2 a3 a4 a5;have B2:Hid (Bw w w2):=Below.step B1.out hb2;clear hb2 ho2)
         | (go_at_call 34;refine ((HH.out) _).mono ?_;rintro e w9 ⟨rfl,hw9⟩;rw [hw9];clear hw9))
        go_ret
        exact ⟨Za (by rw [HR.out];simp [*]),B2.out.alloc B2.out.size _⟩
     | true =>
       cases q2:(st == 0) with
       | false =>
         rcases hvv with rfl|⟨rfl,rfl⟩
         all_goals
          go_enter Tryz.func59,Tryz.ntmps59
          go_wp2_with (first
           | (go_at_call 81;refine ((HM.out) _).mono ?_;rintro e w0 ⟨rfl,hw0⟩;rw [hw0];clear hw0)
           | (go_at_call 82;refine ((HCM.out) _).mono ?_;rintro e w1 ⟨rfl,hb1⟩;have hs1:w.heap.size<w1.heap.size:=sqS hb1;obtain ⟨a0,a1,a2,a3,a4,a5⟩:=sqX hb1 w.heap.size (.string nm) (.string ds) (.int .i64 fl) (.int .i64 lo) (.int .i64 st) (.slice ao K cap);have B1:Hid (Bw w w1):=sqT hb1;clear hb1)
           | (go_at_call 83;refine ((HD.out) _).mono ?_;rintro e w2 ⟨v,rfl,ho2,hb2⟩;obtain ⟨v1,v2,rfl⟩:=Zd ho2;have hs2:w.heap.size<w2.heap.size:=(by have:=hb2.size;omega);have b0:=sqB hb2 w.heap.size 0 (.string nm) hs1;have b1:=sqB hb2 w.heap.size 1 (.string ds) hs1;have b2:=sqB hb2 w.heap.size 2 (.int .i64 fl) hs1;have b3:=sqB hb2 w.heap.size 3 (.int .i64 lo) hs1;have b4:=sqB hb2 w.heap.size 4 (.int .i64 st) hs1;have b5:=sqB hb2 w.heap.size 5 (.slice ao K cap) hs1;clear a0 a1 a2 a3 a4 a5;have B2:Hid (Bw w w2):=Below.step B1.out hb2;clear hb2 ho2)
           | (go_at_call 34;refine ((HH.out) _).mono ?_;rintro e w9 ⟨rfl,hw9⟩;rw [hw9];clear hw9))
          go_ret
          exact ⟨Za (by rw [HR.out];simp [*]),B2.out.alloc B2.out.size _⟩
       | true =>
         cases q3:((K:Int) == 0) with
         | false =>
           rcases hvv with rfl|⟨rfl,rfl⟩
           all_goals
            go_enter Tryz.func59,Tryz.ntmps59
            go_wp2_with (first
             | (go_at_call 81;refine ((HM.out) _).mono ?_;rintro e w0 ⟨rfl,hw0⟩;rw [hw0];clear hw0)
             | (go_at_call 82;refine ((HCM.out) _).mono ?_;rintro e w1 ⟨rfl,hb1⟩;have hs1:w.heap.size<w1.heap.size:=sqS hb1;obtain ⟨a0,a1,a2,a3,a4,a5⟩:=sqX hb1 w.heap.size (.string nm) (.string ds) (.int .i64 fl) (.int .i64 lo) (.int .i64 st) (.slice ao K cap);have B1:Hid (Bw w w1):=sqT hb1;clear hb1)
             | (go_at_call 83;refine ((HD.out) _).mono ?_;rintro e w2 ⟨v,rfl,ho2,hb2⟩;obtain ⟨v1,v2,rfl⟩:=Zd ho2;have hs2:w.heap.size<w2.heap.size:=(by have:=hb2.size;omega);have b0:=sqB hb2 w.heap.size 0 (.string nm) hs1;have b1:=sqB hb2 w.heap.size 1 (.string ds) hs1;have b2:=sqB hb2 w.heap.size 2 (.int .i64 fl) hs1;have b3:=sqB hb2 w.heap.size 3 (.int .i64 lo) hs1;have b4:=sqB hb2 w.heap.size 4 (.int .i64 st) hs1;have b5:=sqB hb2 w.heap.size 5 (.slice ao K cap) hs1;clear a0 a1 a2 a3 a4 a5;have B2:Hid (Bw w w2):=Below.step B1.out hb2;clear hb2 ho2)
             | (go_at_call 34;refine ((HH.out) _).mono ?_;rintro e w9 ⟨rfl,hw9⟩;rw [hw9];clear hw9))
            go_ret
            exact ⟨Za (by rw [HR.out];simp [*]),B2.out.alloc B2.out.size _⟩
         | true =>
           rcases hvv with rfl|⟨rfl,rfl⟩
           all_goals
            go_enter Tryz.func59,Tryz.ntmps59
            go_wp2_with (first
             | (go_at_call 81;refine ((HM.out) _).mono ?_;rintro e w0 ⟨rfl,hw0⟩;rw [hw0];clear hw0)
             | (go_at_call 82;refine ((HCM.out) _).mono ?_;rintro e w1 ⟨rfl,hb1⟩;have hs1:w.heap.size<w1.heap.size:=sqS hb1;obtain ⟨a0,a1,a2,a3,a4,a5⟩:=sqX hb1 w.heap.size (.string nm) (.string ds) (.int .i64 fl) (.int .i64 lo) (.int .i64 st) (.slice ao K cap);have B1:Hid (Bw w w1):=sqT hb1;clear hb1)
             | (go_at_call 83;refine ((HD.out) _).mono ?_;rintro e w2 ⟨v,rfl,ho2,hb2⟩;obtain ⟨v1,v2,rfl⟩:=Zd ho2;have hs2:w.heap.size<w2.heap.size:=(by have:=hb2.size;omega);have b0:=sqB hb2 w.heap.size 0 (.string nm) hs1;have b1:=sqB hb2 w.heap.size 1 (.string ds) hs1;have b2:=sqB hb2 w.heap.size 2 (.int .i64 fl) hs1;have b3:=sqB hb2 w.heap.size 3 (.int .i64 lo) hs1;have b4:=sqB hb2 w.heap.size 4 (.int .i64 st) hs1;have b5:=sqB hb2 w.heap.size 5 (.slice ao K cap) hs1;clear a0 a1 a2 a3 a4 a5;have B2:Hid (Bw w w2):=Below.step B1.out hb2;clear hb2 ho2)
             | (go_at_call 34;refine ((HH.out) _).mono ?_;rintro e w9 ⟨rfl,hw9⟩;rw [hw9];clear hw9))
            go_ret
            exact ⟨Za (by rw [HR.out];simp [*]),B2.out.alloc B2.out.size _⟩
   | false =>
     by_cases q1:st<0
     ·rcases hvv with rfl|⟨rfl,rfl⟩
      all_goals
       go_enter Tryz.func59,Tryz.ntmps59
       go_wp2_with (first
        | (go_at_call 81;refine ((HM.out) _).mono ?_;rintro e w0 ⟨rfl,hw0⟩;rw [hw0];clear hw0)
        | (go_at_call 82;refine ((HCM.out) _).mono ?_;rintro e w1 ⟨rfl,hb1⟩;have hs1:w.heap.size<w1.heap.size:=sqS hb1;obtain ⟨a0,a1,a2,a3,a4,a5⟩:=sqX hb1 w.heap.size (.string nm) (.string ds) (.int .i64 fl) (.int .i64 lo) (.int .i64 st) (.slice ao K cap);have B1:Hid (Bw w w1):=sqT hb1;clear hb1)
        | (go_at_call 83;refine ((HD.out) _).mono ?_;rintro e w2 ⟨v,rfl,ho2,hb2⟩;obtain ⟨v1,v2,rfl⟩:=Zd ho2;have hs2:w.heap.size<w2.heap.size:=(by have:=hb2.size;omega);have b0:=sqB hb2 w.heap.size 0 (.string nm) hs1;have b1:=sqB hb2 w.heap.size 1 (.string ds) hs1;have b2:=sqB hb2 w.heap.size 2 (.int .i64 fl) hs1;have b3:=sqB hb2 w.heap.size 3 (.int .i64 lo) hs1;have b4:=sqB hb2 w.heap.size 4 (.int .i64 st) hs1;have b5:=sqB hb2 w.heap.size 5 (.slice ao K cap) hs1;clear a0 a1 a2 a3 a4 a5;have B2:Hid (Bw w w2):=Below.step B1.out hb2;clear hb2 ho2)
        | (go_at_call 34;refine ((HH.out) _).mono ?_;rintro e w9 ⟨rfl,hw9⟩;rw [hw9];clear hw9)
        | (go_at_call 84;refine ((HW.out) _).mono ?_;rintro e w3 ⟨rfl,hb3⟩;have hs3:w.heap.size<w3.heap.size:=sqS hb3;have c3:w3.cell? ⟨w.heap.size,3,none⟩=some (.int .i64 lo):=(hb3.cell (p:=⟨w.heap.size,3,none⟩) (by simp;omega)).trans (by simp [go_sem, *]);have c4:w3.cell? ⟨w.heap.size,4,none⟩=some (.int .i64 st):=(hb3.cell (p:=⟨w.heap.size,4,none⟩) (by simp;omega)).trans (by simp [go_sem, *]);have c5:w3.cell? ⟨w.heap.size,5,none⟩=some (.slice ao K cap):=(hb3.cell (p:=⟨w.heap.size,5,none⟩) (by simp;omega)).trans (by simp [go_sem, *]);clear b0 b1 b2 b3 b4 b5;have B3:Hid (Bw w w3):=Below.step (B2.out.alloc B2.out.size _) hb3;clear hb3))
       go_ret
       exact ⟨Za (by rw [HR.out];simp [*]),B3.out⟩
     by_cases q2:40<st
     ·rcases hvv with rfl|⟨rfl,rfl⟩
      all_goals
       go_enter Tryz.func59,Tryz.ntmps59
       go_wp2_with (first
        | (go_at_call 81;refine ((HM.out) _).mono ?_;rintro e w0 ⟨rfl,hw0⟩;rw [hw0];clear hw0)
        | (go_at_call 82;refine ((HCM.out) _).mono ?_;rintro e w1 ⟨rfl,hb1⟩;have hs1:w.heap.size<w1.heap.size:=sqS hb1;obtain ⟨a0,a1,a2,a3,a4,a5⟩:=sqX hb1 w.heap.size (.string nm) (.string ds) (.int .i64 fl) (.int .i64 lo) (.int .i64 st) (.slice ao K cap);have B1:Hid (Bw w w1):=sqT hb1;clear hb1)
        | (go_at_call 83;refine ((HD.out) _).mono ?_;rintro e w2 ⟨v,rfl,ho2,hb2⟩;obtain ⟨v1,v2,rfl⟩:=Zd ho2;have hs2:w.heap.size<w2.heap.size:=(by have:=hb2.size;omega);have b0:=sqB hb2 w.heap.size 0 (.string nm) hs1;have b1:=sqB hb2 w.heap.size 1 (.string ds) hs1;have b2:=sqB hb2 w.heap.size 2 (.int .i64 fl) hs1;have b3:=sqB hb2 w.heap.size 3 (.int .i64 lo) hs1;have b4:=sqB hb2 w.heap.size 4 (.int .i64 st) hs1;have b5:=sqB hb2 w.heap.size 5 (.slice ao K cap) hs1;clear a0 a1 a2 a3 a4 a5;have B2:Hid (Bw w w2):=Below.step B1.out hb2;clear hb2 ho2)
        | (go_at_call 34;refine ((HH.out) _).mono ?_;rintro e w9 ⟨rfl,hw9⟩;rw [hw9];clear hw9)
        | (go_at_call 84;refine ((HW.out) _).mono ?_;rintro e w3 ⟨rfl,hb3⟩;have hs3:w.heap.size<w3.heap.size:=sqS hb3;have c3:w3.cell? ⟨w.heap.size,3,none⟩=some (.int .i64 lo):=(hb3.cell (p:=⟨w.heap.size,3,none⟩) (by simp;omega)).trans (by simp [go_sem, *]);have c4:w3.cell? ⟨w.heap.size,4,none⟩=some (.int .i64 st):=(hb3.cell (p:=⟨w.heap.size,4,none⟩) (by simp;omega)).trans (by simp [go_sem, *]);have c5:w3.cell? ⟨w.heap.size,5,none⟩=some (.slice ao K cap):=(hb3.cell (p:=⟨w.heap.size,5,none⟩) (by simp;omega)).trans (by simp [go_sem, *]);clear b0 b1 b2 b3 b4 b5;have B3:Hid (Bw w w3):=Below.step (B2.out.alloc B2.out.size _) hb3;clear hb3))
       go_ret
       exact ⟨Za (by rw [HR.out];simp [*]),B3.out⟩
     by_cases q3:lo<wn
     ·rcases hvv with rfl|⟨rfl,rfl⟩
      all_goals
       go_enter Tryz.func59,Tryz.ntmps59
       go_wp2_with (first
        | (go_at_call 81;refine ((HM.out) _).mono ?_;rintro e w0 ⟨rfl,hw0⟩;rw [hw0];clear hw0)
        | (go_at_call 82;refine ((HCM.out) _).mono ?_;rintro e w1 ⟨rfl,hb1⟩;have hs1:w.heap.size<w1.heap.size:=sqS hb1;obtain ⟨a0,a1,a2,a3,a4,a5⟩:=sqX hb1 w.heap.size (.string nm) (.string ds) (.int .i64 fl) (.int .i64 lo) (.int .i64 st) (.slice ao K cap);have B1:Hid (Bw w w1):=sqT hb1;clear hb1)
        | (go_at_call 83;refine ((HD.out) _).mono ?_;rintro e w2 ⟨v,rfl,ho2,hb2⟩;obtain ⟨v1,v2,rfl⟩:=Zd ho2;have hs2:w.heap.size<w2.heap.size:=(by have:=hb2.size;omega);have b0:=sqB hb2 w.heap.size 0 (.string nm) hs1;have b1:=sqB hb2 w.heap.size 1 (.string ds) hs1;have b2:=sqB hb2 w.heap.size 2 (.int .i64 fl) hs1;have b3:=sqB hb2 w.heap.size 3 (.int .i64 lo) hs1;have b4:=sqB hb2 w.heap.size 4 (.int .i64 st) hs1;have b5:=sqB hb2 w.heap.size 5 (.slice ao K cap) hs1;clear a0 a1 a2 a3 a4 a5;have B2:Hid (Bw w w2):=Below.step B1.out hb2;clear hb2 ho2)
        | (go_at_call 34;refine ((HH.out) _).mono ?_;rintro e w9 ⟨rfl,hw9⟩;rw [hw9];clear hw9)
        | (go_at_call 84;refine ((HW.out) _).mono ?_;rintro e w3 ⟨rfl,hb3⟩;have hs3:w.heap.size<w3.heap.size:=sqS hb3;have c3:w3.cell? ⟨w.heap.size,3,none⟩=some (.int .i64 lo):=(hb3.cell (p:=⟨w.heap.size,3,none⟩) (by simp;omega)).trans (by simp [go_sem, *]);have c4:w3.cell? ⟨w.heap.size,4,none⟩=some (.int .i64 st):=(hb3.cell (p:=⟨w.heap.size,4,none⟩) (by simp;omega)).trans (by simp [go_sem, *]);have c5:w3.cell? ⟨w.heap.size,5,none⟩=some (.slice ao K cap):=(hb3.cell (p:=⟨w.heap.size,5,none⟩) (by simp;omega)).trans (by simp [go_sem, *]);clear b0 b1 b2 b3 b4 b5;have B3:Hid (Bw w w3):=Below.step (B2.out.alloc B2.out.size _) hb3;clear hb3))
       go_ret
       exact ⟨Za (by rw [HR.out];simp [*]),B3.out⟩
     by_cases q4:40<lo
     ·rcases hvv with rfl|⟨rfl,rfl⟩
      all_goals
       go_enter Tryz.func59,Tryz.ntmps59
       go_wp2_with (first
        | (go_at_call 81;refine ((HM.out) _).mono ?_;rintro e w0 ⟨rfl,hw0⟩;rw [hw0];clear hw0)
        | (go_at_call 82;refine ((HCM.out) _).mono ?_;rintro e w1 ⟨rfl,hb1⟩;have hs1:w.heap.size<w1.heap.size:=sqS hb1;obtain ⟨a0,a1,a2,a3,a4,a5⟩:=sqX hb1 w.heap.size (.string nm) (.string ds) (.int .i64 fl) (.int .i64 lo) (.int .i64 st) (.slice ao K cap);have B1:Hid (Bw w w1):=sqT hb1;clear hb1)
        | (go_at_call 83;refine ((HD.out) _).mono ?_;rintro e w2 ⟨v,rfl,ho2,hb2⟩;obtain ⟨v1,v2,rfl⟩:=Zd ho2;have hs2:w.heap.size<w2.heap.size:=(by have:=hb2.size;omega);have b0:=sqB hb2 w.heap.size 0 (.string nm) hs1;have b1:=sqB hb2 w.heap.size 1 (.string ds) hs1;have b2:=sqB hb2 w.heap.size 2 (.int .i64 fl) hs1;have b3:=sqB hb2 w.heap.size 3 (.int .i64 lo) hs1;have b4:=sqB hb2 w.heap.size 4 (.int .i64 st) hs1;have b5:=sqB hb2 w.heap.size 5 (.slice ao K cap) hs1;clear a0 a1 a2 a3 a4 a5;have B2:Hid (Bw w w2):=Below.step B1.out hb2;clear hb2 ho2)
        | (go_at_call 34;refine ((HH.out) _).mono ?_;rintro e w9 ⟨rfl,hw9⟩;rw [hw9];clear hw9)
        | (go_at_call 84;refine ((HW.out) _).mono ?_;rintro e w3 ⟨rfl,hb3⟩;have hs3:w.heap.size<w3.heap.size:=sqS hb3;have c3:w3.cell? ⟨w.heap.size,3,none⟩=some (.int .i64 lo):=(hb3.cell (p:=⟨w.heap.size,3,none⟩) (by simp;omega)).trans (by simp [go_sem, *]);have c4:w3.cell? ⟨w.heap.size,4,none⟩=some (.int .i64 st):=(hb3.cell (p:=⟨w.heap.size,4,none⟩) (by simp;omega)).trans (by simp [go_sem, *]);have c5:w3.cell? ⟨w.heap.size,5,none⟩=some (.slice ao K cap):=(hb3.cell (p:=⟨w.heap.size,5,none⟩) (by simp;omega)).trans (by simp [go_sem, *]);clear b0 b1 b2 b3 b4 b5;have B3:Hid (Bw w w3):=Below.step (B2.out.alloc B2.out.size _) hb3;clear hb3))
       go_ret
       exact ⟨Za (by rw [HR.out];simp [*]),B3.out⟩
     cases q5:(al == 0) with
     | false =>
       rcases hvv with rfl|⟨rfl,rfl⟩
       all_goals
        go_enter Tryz.func59,Tryz.ntmps59
        go_wp2_with (first
         | (go_at_call 81;refine ((HM.out) _).mono ?_;rintro e w0 ⟨rfl,hw0⟩;rw [hw0];clear hw0)
         | (go_at_call 82;refine ((HCM.out) _).mono ?_;rintro e w1 ⟨rfl,hb1⟩;have hs1:w.heap.size<w1.heap.size:=sqS hb1;obtain ⟨a0,a1,a2,a3,a4,a5⟩:=sqX hb1 w.heap.size (.string nm) (.string ds) (.int .i64 fl) (.int .i64 lo) (.int .i64 st) (.slice ao K cap);have B1:Hid (Bw w w1):=sqT hb1;clear hb1)
         | (go_at_call 83;refine ((HD.out) _).mono ?_;rintro e w2 ⟨v,rfl,ho2,hb2⟩;obtain ⟨v1,v2,rfl⟩:=Zd ho2;have hs2:w.heap.size<w2.heap.size:=(by have:=hb2.size;omega);have b0:=sqB hb2 w.heap.size 0 (.string nm) hs1;have b1:=sqB hb2 w.heap.size 1 (.string ds) hs1;have b2:=sqB hb2 w.heap.size 2 (.int .i64 fl) hs1;have b3:=sqB hb2 w.heap.size 3 (.int .i64 lo) hs1;have b4:=sqB hb2 w.heap.size 4 (.int .i64 st) hs1;have b5:=sqB hb2 w.heap.size 5 (.slice ao K cap) hs1;clear a0 a1 a2 a3 a4 a5;have B2:Hid (Bw w w2):=Below.step B1.out hb2;clear hb2 ho2)
         | (go_at_call 34;refine ((HH.out) _).mono ?_;rintro e w9 ⟨rfl,hw9⟩;rw [hw9];clear hw9)
         | (go_at_call 84;refine ((HW.out) _).mono ?_;rintro e w3 ⟨rfl,hb3⟩;have hs3:w.heap.size<w3.heap.size:=sqS hb3;have c3:w3.cell? ⟨w.heap.size,3,none⟩=some (.int .i64 lo):=(hb3.cell (p:=⟨w.heap.size,3,none⟩) (by simp;omega)).trans (by simp [go_sem, *]);have c4:w3.cell? ⟨w.heap.size,4,none⟩=some (.int .i64 st):=(hb3.cell (p:=⟨w.heap.size,4,none⟩) (by simp;omega)).trans (by simp [go_sem, *]);have c5:w3.cell? ⟨w.heap.size,5,none⟩=some (.slice ao K cap):=(hb3.cell (p:=⟨w.heap.size,5,none⟩) (by simp;omega)).trans (by simp [go_sem, *]);clear b0 b1 b2 b3 b4 b5;have B3:Hid (Bw w w3):=Below.step (B2.out.alloc B2.out.size _) hb3;clear hb3)
         | (go_at_call 85;refine (HCA.out _ (HI.out.keep B3.out)).mono ?_;rintro e w4 ⟨rfl,hb4⟩;have B4:Hid (Bw w w4):=Below.step B3.out hb4;clear hb4))
        go_ret
        exact ⟨Za (by rw [HR.out];simp [*]),B4.out⟩
     | true =>
       rcases hvv with rfl|⟨rfl,rfl⟩
       all_goals
        go_enter Tryz.func59,Tryz.ntmps59
        go_wp2_with (first
         | (go_at_call 81;refine ((HM.out) _).mono ?_;rintro e w0 ⟨rfl,hw0⟩;rw [hw0];clear hw0)
         | (go_at_call 82;refine ((HCM.out) _).mono ?_;rintro e w1 ⟨rfl,hb1⟩;have hs1:w.heap.size<w1.heap.size:=sqS hb1;obtain ⟨a0,a1,a2,a3,a4,a5⟩:=sqX hb1 w.heap.size (.string nm) (.string ds) (.int .i64 fl) (.int .i64 lo) (.int .i64 st) (.slice ao K cap);have B1:Hid (Bw w w1):=sqT hb1;clear hb1)
         | (go_at_call 83;refine ((HD.out) _).mono ?_;rintro e w2 ⟨v,rfl,ho2,hb2⟩;obtain ⟨v1,v2,rfl⟩:=Zd ho2;have hs2:w.heap.size<w2.heap.size:=(by have:=hb2.size;omega);have b0:=sqB hb2 w.heap.size 0 (.string nm) hs1;have b1:=sqB hb2 w.heap.size 1 (.string ds) hs1;have b2:=sqB hb2 w.heap.size 2 (.int .i64 fl) hs1;have b3:=sqB hb2 w.heap.size 3 (.int .i64 lo) hs1;have b4:=sqB hb2 w.heap.size 4 (.int .i64 st) hs1;have b5:=sqB hb2 w.heap.size 5 (.slice ao K cap) hs1;clear a0 a1 a2 a3 a4 a5;have B2:Hid (Bw w w2):=Below.step B1.out hb2;clear hb2 ho2)
         | (go_at_call 34;refine ((HH.out) _).mono ?_;rintro e w9 ⟨rfl,hw9⟩;rw [hw9];clear hw9)
         | (go_at_call 84;refine ((HW.out) _).mono ?_;rintro e w3 ⟨rfl,hb3⟩;have hs3:w.heap.size<w3.heap.size:=sqS hb3;have c3:w3.cell? ⟨w.heap.size,3,none⟩=some (.int .i64 lo):=(hb3.cell (p:=⟨w.heap.size,3,none⟩) (by simp;omega)).trans (by simp [go_sem, *]);have c4:w3.cell? ⟨w.heap.size,4,none⟩=some (.int .i64 st):=(hb3.cell (p:=⟨w.heap.size,4,none⟩) (by simp;omega)).trans (by simp [go_sem, *]);have c5:w3.cell? ⟨w.heap.size,5,none⟩=some (.slice ao K cap):=(hb3.cell (p:=⟨w.heap.size,5,none⟩) (by simp;omega)).trans (by simp [go_sem, *]);clear b0 b1 b2 b3 b4 b5;have B3:Hid (Bw w w3):=Below.step (B2.out.alloc B2.out.size _) hb3;clear hb3)
         | (go_at_call 85;refine (HCA.out _ (HI.out.keep B3.out)).mono ?_;rintro e w4 ⟨rfl,hb4⟩;have B4:Hid (Bw w w4):=Below.step B3.out hb4;clear hb4))
        go_ret
        exact ⟨Za (by rw [HR.out];simp [*]),B4.out⟩
end Go.Proofs.YtkoogmegdfpopaaGreat
