import Derived.Test.YtkoogmegdfpopaaGreatShpG
import Derived.Test.YtkoogmegdfpopaaGreatOwnL
import Derived.Test.YtkoogmegdfpopaaGreatFOwnA
set_option maxHeartbeats 2000000
set_option maxRecDepth 100000
namespace Go.Proofs.YtkoogmegdfpopaaGreat
open Go.RowKit
theorem Zhd (nm ds:ByteArray) (fl lo st:Int) (vc:Value) (hd:ds.size≤maxLen) (w:World):Calls Tryz.prog 118 #[.agg #[.string nm,.string ds,.int .i64 fl,.int .i64 lo,.int .i64 st,vc]] w fun e w'=>e=.returned (.tuple #[.int .i64 (wdsN ds.data.toList fl),.int .i64 (wdsE ds.data.toList)])∧Bw w w':=by
 have HD:Hid (∀ w,_):=Xe ds hd
 have HN:Hid (wdsN ds.data.toList fl=if pdE ds.data.toList=0 then ((pdD ds.data.toList).1.length:Int)+(if hasI fl 8 then 0 else 1) else 0):=rfl
 have HE:Hid (wdsE ds.data.toList=if pdE ds.data.toList=0 then 0 else 1):=rfl
 have hlen:=Zh7 ds.data.toList
 have hh8:(bits .and .i64 fl 8 != 0)=hasI fl 8:=rfl
 clear hd
 unfold DOut at HD
 generalize wdsN ds.data.toList fl=wn at *
 generalize wdsE ds.data.toList=we at *
 generalize pdE ds.data.toList=pd at *
 generalize hpa:(pdD ds.data.toList).1=pa at *
 generalize hasI fl 8=hh at *
 clear hpa
 by_cases hpd:pd=0
 ·subst hpd
  cases hh with
  | false =>
    go_enter Tryz.func118,Tryz.ntmps118
    go_wp2_with (first
     | (go_at_call 92;refine ((HD.out) _).mono ?_;rintro e w1 ⟨v,rfl,ho,hb1⟩;obtain ⟨v1,v2,rfl⟩:=Zd ho;have hs1:w.heap.size<w1.heap.size:=sqS hb1;have hc2:=sqA hb1 w.heap.size 2 (.int .i64 fl)))
    go_ret2
    exact ⟨by rw [HN.out,HE.out];rfl,(sqT hb1).alloc (by have:=hb1.size;simp at this;omega) _⟩
  | true =>
    go_enter Tryz.func118,Tryz.ntmps118
    go_wp2_with (first
     | (go_at_call 92;refine ((HD.out) _).mono ?_;rintro e w1 ⟨v,rfl,ho,hb1⟩;obtain ⟨v1,v2,rfl⟩:=Zd ho;have hs1:w.heap.size<w1.heap.size:=sqS hb1;have hc2:=sqA hb1 w.heap.size 2 (.int .i64 fl)))
    go_ret2
    exact ⟨by rw [HN.out,HE.out];simp,(sqT hb1).alloc (by have:=hb1.size;simp at this;omega) _⟩
 ·have hne:(pd != 0)=true:=by rw [bne_iff_ne];exact hpd
  go_enter Tryz.func118,Tryz.ntmps118
  go_wp2_with (first
   | (go_at_call 92;refine ((HD.out) _).mono ?_;rintro e w1 ⟨v,rfl,ho,hb1⟩;obtain ⟨v1,v2,rfl⟩:=Zd ho))
  go_ret2
  exact ⟨by rw [HN.out,HE.out,if_neg hpd,if_neg hpd];rfl,(sqT hb1).alloc (by have:=hb1.size;simp at this;omega) _⟩
def Zg8 (ds:List UInt8) (fl lo st:Int) (code:List Ins):Bool :=
 (wdsE ds == 0)&&(decide (wdsN ds fl≤lo)&&decide (lo≤40))&&(decide (0≤st)&&decide (st≤40))&&(allE code lo == 0)
theorem body_any (nm ds:ByteArray) (fl lo st:Int) (vc:Value) (code:List Ins) (hd:ds.size≤maxLen) (w:World) (hI:IsInss w vc code) (hok:∀ i∈code,Ze7 i) :
 Calls Tryz.prog 95 #[.agg #[.string nm,.string ds,.int .i64 fl,.int .i64 lo,.int .i64 st,vc]] w fun e w'=>e=.returned (.bool (Zg8 ds.data.toList fl lo st code))∧Bw w w':=by
 have HI:Hid (IsInss w vc code):=hI
 have HW:Hid (∀ w,_):=Zhd nm ds fl lo st vc hd
 have HCA:Hid (∀ w',IsInss w' vc code→_):=fun w' h=>Zeb vc code lo w' h hok
 have HR:Hid (Zg8 ds.data.toList fl lo st code=((wdsE ds.data.toList == 0)&&(decide (wdsN ds.data.toList fl≤lo)&&decide (lo≤40))&&(decide (0≤st)&&decide (st≤40))&&(allE code lo == 0))):=rfl
 have HWI:Hid (∀ (n a b:Int) (w:World),_):=Za7
 obtain ⟨ao,cap,rfl,h1,h2,_⟩:=hI
 unfold maxLen at h2
 clear hd hok
 obtain ⟨K,hK⟩:∃ K,code.length=K:=⟨_,rfl⟩
 rw [hK] at h1 HI HW HCA ⊢
 clear hK
 generalize Zg8 ds.data.toList fl lo st code=z at *
 obtain ⟨q1,hq1⟩:∃ q,(decide (wdsN ds.data.toList fl≤lo)&&decide (lo≤40))=q:=⟨_,rfl⟩
 obtain ⟨q2,hq2⟩:∃ q,(decide (0≤st)&&decide (st≤40))=q:=⟨_,rfl⟩
 rw [hq1,hq2] at HR
 have E1:Hid _:=hq1
 have E2:Hid _:=hq2
 clear hq1 hq2
 generalize wdsN ds.data.toList fl=wn at *
 generalize wdsE ds.data.toList=we at *
 generalize allE code lo=al at *
 generalize hwe:(we == 0)=q0 at *
 generalize hal:(al == 0)=q3 at *
 cases q0
 all_goals (try cases q1)
 all_goals (try cases q2)
 all_goals (try cases q3)
 all_goals
  go_enter Tryz.func95,Tryz.ntmps95
  go_wp2_with (first
   | (go_at_call 118;refine ((HW.out) _).mono ?_;rintro e w1 ⟨rfl,hb1⟩;have hs1:w.heap.size<w1.heap.size:=sqS hb1;obtain ⟨a0,a1,a2,a3,a4,a5⟩:=sqX hb1 w.heap.size (.string nm) (.string ds) (.int .i64 fl) (.int .i64 lo) (.int .i64 st) (.slice ao K cap);have B1:Hid (Bw w w1):=sqT hb1;clear hb1)
   | (go_at_call 51;refine ((HWI.out) _ _ _ _).mono ?_;rintro e w2 ⟨rfl,hw2⟩;rw [hw2];first|rw [E1.out]|rw [E2.out];clear hw2)
   | (go_at_call 119;refine ((HCA.out) _ (HI.out.keep B1.out)).mono ?_;rintro e w3 ⟨rfl,hb3⟩;have B3:Hid (Bw w w3):=Below.step B1.out hb3;clear hb3))
  go_ret
  first
   | exact ⟨Za (by rw [HR.out];simp [*]),B3.out⟩
   | exact ⟨Za (by rw [HR.out];simp [*]),B1.out⟩
theorem mth_body (nm ds:ByteArray) (fl lo st:Int) (code:List Ins) (iface:Bool):mthB ⟨nm,ds,fl,lo,st,code⟩ iface=(Z3 nm.data.toList&&(pdE ds.data.toList == 0)&&(chkM fl iface (nm.toList == [60,105,110,105,116,62]) == 0)&&!((nm.toList == [60,105,110,105,116,62])&&!X6 (pdD ds.data.toList).2) &&
 (if hasI fl 1024 then (lo == 0)&&(st == 0)&&((code.length:Int) == 0) else Zg8 ds.data.toList fl lo st code)):=by
 unfold mthB Zg8
 simp only
 cases Z3 nm.data.toList
 ·rfl
 ·cases hp:(pdE ds.data.toList == 0)
  ·simp
  ·have hw:wdsE ds.data.toList=0:=by rw [wdsE,if_pos (by simpa using hp)]
   rw [hw]
   have e1:decide (wdsN ds.data.toList fl≤lo)=!decide (lo<wdsN ds.data.toList fl):=by by_cases h:lo<wdsN ds.data.toList fl <;> simp [h] <;> omega
   have e2:decide (lo≤40)=!decide (40<lo):=by by_cases h:40<lo <;> simp [h] <;> omega
   have e3:decide (0≤st)=!decide (st<0):=by by_cases h:st<0 <;> simp [h] <;> omega
   have e4:decide (st≤40)=!decide (40<st):=by by_cases h:40<st <;> simp [h] <;> omega
   rw [e1,e2,e3,e4]
   simp only [Bool.true_and,Bool.and_true,beq_self_eq_true]
   split
   ·rfl
   ·generalize (!decide (st<0))=x1
    generalize (!decide (40<st))=x2
    generalize (!decide (lo<wdsN ds.data.toList fl))=x3
    generalize (!decide (40<lo))=x4
    cases x1 <;> cases x2 <;> cases x3 <;> cases x4 <;> simp
theorem Zex (nm ds:ByteArray) (fl lo st:Int) (vc:Value) (code:List Ins) (iface:Bool) (hn:nm.size≤maxLen) (hd:ds.size≤maxLen) (hf:-9223372036854775808≤fl∧fl≤9223372036854775807) (w:World) (hI:IsInss w vc code) (hok:∀ i∈code,Ze7 i) :
 Calls Tryz.prog 74 #[.agg #[.string nm,.string ds,.int .i64 fl,.int .i64 lo,.int .i64 st,vc],.bool iface] w fun e w'=>e=.returned (.bool (mthB ⟨nm,ds,fl,lo,st,code⟩ iface))∧Bw w w':=by
 have HM:Hid (∀ w,_):=Zbi nm hn
 have HCM:Hid (∀ w,_):=Fl.CheckMethod_any fl hf iface nm
 have HD:Hid (∀ w,_):=Xe ds hd
 have HI:Hid (IsInss w vc code):=hI
 have HB:Hid (∀ w',IsInss w' vc code→_):=fun w' h=>body_any nm ds fl lo st vc code hd w' h hok
 have HR:Hid _:=mth_body nm ds fl lo st code iface
 have hh1:(bits .and .i64 fl 1024 != 0)=hasI fl 1024:=rfl
 unfold DOut at HD
 obtain ⟨ao,cap,rfl,h1,h2,_⟩:=hI
 unfold maxLen at h2
 clear hn hd hok hf
 obtain ⟨K,hK⟩:∃ K,code.length=K:=⟨_,rfl⟩
 rw [hK] at h1 HI HB HR ⊢
 clear hK
 generalize mthB ⟨nm,ds,fl,lo,st,code⟩ iface=z at *
 generalize Z3 nm.data.toList=mm at *
 generalize qi:(nm.toList == [60,105,110,105,116,62])=ini at *
 generalize chkM fl iface ini=ck at *
 generalize Zg8 ds.data.toList fl lo st code=bb at *
 generalize pdE ds.data.toList=pd at *
 generalize (pdD ds.data.toList).1=pa at *
 generalize (pdD ds.data.toList).2=pr at *
 generalize X6 pr=vd at *
 generalize hasI fl 1024=hh at *
 generalize hpd:(pd == 0)=q0 at *
 generalize hck:(ck == 0)=q1 at *
 have hpd2:(pd != 0)=!q0:=by rw [bne,hpd]
 have hck2:(ck != 0)=!q1:=by rw [bne,hck]
 generalize hl0:(lo == 0)=q2 at *
 generalize hs0:(st == 0)=q3 at *
 generalize hk0:((K:Int) == 0)=q4 at *
 cases mm with
 | false =>
   go_enter Tryz.func74,Tryz.ntmps74
   go_wp2_with (first
    | (go_at_call 92;refine ((HD.out) _).mono ?_;rintro e w1 ⟨v,rfl,ho,hb1⟩;obtain ⟨v1,v2,rfl⟩:=Zd ho;have hs1:w.heap.size<w1.heap.size:=sqS hb1;obtain ⟨a0,a1,a2,a3,a4,a5⟩:=sqX hb1 w.heap.size (.string nm) (.string ds) (.int .i64 fl) (.int .i64 lo) (.int .i64 st) (.slice ao K cap);have B1:Hid (Bw w w1):=sqT hb1;clear hb1 ho)
    | (go_at_call 93;refine ((HM.out) _).mono ?_;rintro e w2 ⟨rfl,hw2⟩;rw [hw2];clear hw2)
    | (go_at_call 94;refine ((HCM.out) _).mono ?_;rintro e w2 ⟨rfl,hw2⟩;rw [hw2];clear hw2))
   go_ret
   exact ⟨Za (by rw [HR.out];simp [*]),B1.out.alloc B1.out.size _⟩
 | true =>
 cases q0 with
 | false =>
   go_enter Tryz.func74,Tryz.ntmps74
   go_wp2_with (first
    | (go_at_call 92;refine ((HD.out) _).mono ?_;rintro e w1 ⟨v,rfl,ho,hb1⟩;obtain ⟨v1,v2,rfl⟩:=Zd ho;have hs1:w.heap.size<w1.heap.size:=sqS hb1;obtain ⟨a0,a1,a2,a3,a4,a5⟩:=sqX hb1 w.heap.size (.string nm) (.string ds) (.int .i64 fl) (.int .i64 lo) (.int .i64 st) (.slice ao K cap);have B1:Hid (Bw w w1):=sqT hb1;clear hb1 ho)
    | (go_at_call 93;refine ((HM.out) _).mono ?_;rintro e w2 ⟨rfl,hw2⟩;rw [hw2];clear hw2)
    | (go_at_call 94;refine ((HCM.out) _).mono ?_;rintro e w2 ⟨rfl,hw2⟩;rw [hw2];clear hw2))
   go_ret
   exact ⟨Za (by rw [HR.out];simp [*]),B1.out.alloc B1.out.size _⟩
 | true =>
 cases q1 with
 | false =>
   go_enter Tryz.func74,Tryz.ntmps74
   go_wp2_with (first
    | (go_at_call 92;refine ((HD.out) _).mono ?_;rintro e w1 ⟨v,rfl,ho,hb1⟩;obtain ⟨v1,v2,rfl⟩:=Zd ho;have hs1:w.heap.size<w1.heap.size:=sqS hb1;obtain ⟨a0,a1,a2,a3,a4,a5⟩:=sqX hb1 w.heap.size (.string nm) (.string ds) (.int .i64 fl) (.int .i64 lo) (.int .i64 st) (.slice ao K cap);have B1:Hid (Bw w w1):=sqT hb1;clear hb1 ho)
    | (go_at_call 93;refine ((HM.out) _).mono ?_;rintro e w2 ⟨rfl,hw2⟩;rw [hw2];clear hw2)
    | (go_at_call 94;refine ((HCM.out) _).mono ?_;rintro e w2 ⟨rfl,hw2⟩;rw [hw2];clear hw2))
   go_ret
   exact ⟨Za (by rw [HR.out];simp [*]),B1.out.alloc B1.out.size _⟩
 | true =>
 by_cases hv:ini=true∧vd=false
 ·obtain ⟨rfl,rfl⟩:=hv
  go_enter Tryz.func74,Tryz.ntmps74
  go_wp2_with (first
   | (go_at_call 92;refine ((HD.out) _).mono ?_;rintro e w1 ⟨v,rfl,ho,hb1⟩;obtain ⟨v1,v2,rfl⟩:=Zd ho;have hs1:w.heap.size<w1.heap.size:=sqS hb1;obtain ⟨a0,a1,a2,a3,a4,a5⟩:=sqX hb1 w.heap.size (.string nm) (.string ds) (.int .i64 fl) (.int .i64 lo) (.int .i64 st) (.slice ao K cap);have B1:Hid (Bw w w1):=sqT hb1;clear hb1 ho)
   | (go_at_call 93;refine ((HM.out) _).mono ?_;rintro e w2 ⟨rfl,hw2⟩;rw [hw2];clear hw2)
   | (go_at_call 94;refine ((HCM.out) _).mono ?_;rintro e w2 ⟨rfl,hw2⟩;rw [hw2];clear hw2))
  go_ret
  exact ⟨Za (by rw [HR.out];simp [*]),B1.out.alloc B1.out.size _⟩
 have hvv:ini=false∨(ini=true∧vd=true):=by cases ini <;> cases vd <;> simp_all
 clear hv
 cases hh with
 | true =>
   cases q2 with
   | false =>
     rcases hvv with rfl|⟨rfl,rfl⟩
     all_goals
      go_enter Tryz.func74,Tryz.ntmps74
      go_wp2_with (first
       | (go_at_call 92;refine ((HD.out) _).mono ?_;rintro e w1 ⟨v,rfl,ho,hb1⟩;obtain ⟨v1,v2,rfl⟩:=Zd ho;have hs1:w.heap.size<w1.heap.size:=sqS hb1;obtain ⟨a0,a1,a2,a3,a4,a5⟩:=sqX hb1 w.heap.size (.string nm) (.string ds) (.int .i64 fl) (.int .i64 lo) (.int .i64 st) (.slice ao K cap);have B1:Hid (Bw w w1):=sqT hb1;clear hb1 ho)
       | (go_at_call 93;refine ((HM.out) _).mono ?_;rintro e w2 ⟨rfl,hw2⟩;rw [hw2];clear hw2)
       | (go_at_call 94;refine ((HCM.out) _).mono ?_;rintro e w2 ⟨rfl,hw2⟩;rw [hw2];clear hw2))
      go_ret
      exact ⟨Za (by rw [HR.out];simp [*]),B1.out.alloc B1.out.size _⟩
   | true =>
   cases q3 with
   | false =>
     rcases hvv with rfl|⟨rfl,rfl⟩
     all_goals
      go_enter Tryz.func74,Tryz.ntmps74
      go_wp2_with (first
       | (go_at_call 92;refine ((HD.out) _).mono ?_;rintro e w1 ⟨v,rfl,ho,hb1⟩;obtain ⟨v1,v2,rfl⟩:=Zd ho;have hs1:w.heap.size<w1.heap.size:=sqS hb1;obtain ⟨a0,a1,a2,a3,a4,a5⟩:=sqX hb1 w.heap.size (.string nm) (.string ds) (.int .i64 fl) (.int .i64 lo) (.int .i64 st) (.slice ao K cap);have B1:Hid (Bw w w1):=sqT hb1;clear hb1 ho)
       | (go_at_call 93;refine ((HM.out) _).mono ?_;rintro e w2 ⟨rfl,hw2⟩;rw [hw2];clear hw2)
       | (go_at_call 94;refine ((HCM.out) _).mono ?_;rintro e w2 ⟨rfl,hw2⟩;rw [hw2];clear hw2))
      go_ret
      exact ⟨Za (by rw [HR.out];simp [*]),B1.out.alloc B1.out.size _⟩
   | true =>
     rcases hvv with rfl|⟨rfl,rfl⟩
     all_goals
      go_enter Tryz.func74,Tryz.ntmps74
      go_wp2_with (first
       | (go_at_call 92;refine ((HD.out) _).mono ?_;rintro e w1 ⟨v,rfl,ho,hb1⟩;obtain ⟨v1,v2,rfl⟩:=Zd ho;have hs1:w.heap.size<w1.heap.size:=sqS hb1;obtain ⟨a0,a1,a2,a3,a4,a5⟩:=sqX hb1 w.heap.size (.string nm) (.string ds) (.int .i64 fl) (.int .i64 lo) (.int .i64 st) (.slice ao K cap);have B1:Hid (Bw w w1):=sqT hb1;clear hb1 ho)
       | (go_at_call 93;refine ((HM.out) _).mono ?_;rintro e w2 ⟨rfl,hw2⟩;rw [hw2];clear hw2)
       | (go_at_call 94;refine ((HCM.out) _).mono ?_;rintro e w2 ⟨rfl,hw2⟩;rw [hw2];clear hw2))
      go_ret
      exact ⟨Za (by rw [HR.out];simp [*]),B1.out.alloc B1.out.size _⟩
 | false =>
   rcases hvv with rfl|⟨rfl,rfl⟩
   all_goals
    go_enter Tryz.func74,Tryz.ntmps74
    go_wp2_with (first
     | (go_at_call 92;refine ((HD.out) _).mono ?_;rintro e w1 ⟨v,rfl,ho,hb1⟩;obtain ⟨v1,v2,rfl⟩:=Zd ho;have hs1:w.heap.size<w1.heap.size:=sqS hb1;obtain ⟨a0,a1,a2,a3,a4,a5⟩:=sqX hb1 w.heap.size (.string nm) (.string ds) (.int .i64 fl) (.int .i64 lo) (.int .i64 st) (.slice ao K cap);have B1:Hid (Bw w w1):=sqT hb1;clear hb1 ho)
     | (go_at_call 93;refine ((HM.out) _).mono ?_;rintro e w2 ⟨rfl,hw2⟩;rw [hw2];clear hw2)
     | (go_at_call 94;refine ((HCM.out) _).mono ?_;rintro e w2 ⟨rfl,hw2⟩;rw [hw2];clear hw2)
     | (go_at_call 95;refine ((HB.out) _ (HI.out.keep (B1.out.alloc B1.out.size _))).mono ?_;rintro e w3 ⟨rfl,hb3⟩;have B3:Hid (Bw w w3):=Below.step (B1.out.alloc B1.out.size _) hb3;clear hb3))
    go_ret
    exact ⟨Za (by rw [HR.out];simp [*]),B3.out⟩
theorem IsStrs.take {w:World} {ao:Option Addr} {cap:Nat} {l:List (List UInt8)} (h:IsStrs w (.slice ao l.length cap) l) (k:Nat) (hk:k≤l.length):IsStrs w (.slice ao k cap) (l.take k):=by
 obtain ⟨ao',cap',he,h1,h2,h3⟩:=h
 injection he with e1 e2 e3
 subst e1 e3
 have hl:(l.take k).length=k:=by simp [hk]
 refine ⟨ao,cap,by rw [hl],by rw [hl];omega,h2,fun hne=>?_⟩
 obtain ⟨bk,o,e,hlt,hc⟩:=h3 (by intro e;rw [e] at hne;simp at hne)
 refine ⟨bk,o,e,hlt,fun j p hj=>hc j p ?_⟩
 rw [List.getElem?_take] at hj
 split at hj
 ·exact hj
 ·cases hj
theorem has_at {l:List (List UInt8)} {p:List UInt8} (k:Nat) (x:List UInt8) (h:l[k]?=some x):(l.drop k).contains p=((p == x)||(l.drop (k+1)).contains p):=by
 obtain ⟨h1,h2⟩:=List.getElem?_eq_some_iff.1 h
 rw [List.drop_eq_getElem_cons h1,h2,List.contains_cons]
theorem Zgc (v:Value) (l:List (List UInt8)) (p:List UInt8) (W:World) (h:IsStrs W v l) :
 Calls Tryz.prog 90 #[v,.string ⟨p.toArray⟩] W fun e w'=>(∃ i:Int,e=.returned (.int .i64 i)∧decide (0≤i)=l.contains p)∧Bw W w':=by
 obtain ⟨ao,cap,rfl,h1,h2,h3⟩:=h
 obtain ⟨N,hN⟩:∃ N,l.length=N:=⟨_,rfl⟩
 unfold maxLen at h2
 rw [hN] at h1 ⊢
 have HN1:Hid (l.length=N):=hN
 have HA:Hid _:=h3
 have HE:Hid (∀ q:List UInt8,((⟨p.toArray⟩:ByteArray).toList == (⟨q.toArray⟩:ByteArray).toList)=(p == q)):=fun q=>by rw [Lib.toList_data,Lib.toList_data]
 obtain ⟨P,hP⟩:∃ P:ByteArray,P=⟨p.toArray⟩:=⟨_,rfl⟩
 rw [← hP] at HE ⊢
 clear hN h3 hP
 go_enter Tryz.func90,Tryz.ntmps90
 go_wp2
 go_loopw [8] (fun iv wr=>∃ i:Nat,iv=.int .i64 i∧i≤N∧Hid (Bw W wr)∧Hid ((l.drop i).contains p=l.contains p)) (fun iv _=>N - (intOf iv).toNat)
 case atStart=>exact ⟨0,rfl,Nat.zero_le _,Below.refl _ _,rfl⟩
 case round =>
  obtain ⟨i,rfl,hi,hb,hs⟩:=hrel
  by_cases hlt:i<N
  ·obtain ⟨bk,o,hao,hbk,hc⟩:=HA.out (by intro e;have:=HN1.out;rw [e] at this;simp at this;omega)
   obtain ⟨x,hx⟩:∃ x,l[i]?=some x:=⟨_,List.getElem?_eq_getElem (by rw [HN1.out];exact hlt)⟩
   subst hao
   have hst:=has_at (p:=p) i x hx
   rw [hs.out] at hst
   have p0:=(hb.out.cell hbk).trans (hc i x hx)
   have hq:=HE.out x
   obtain ⟨X,hX⟩:∃ X:ByteArray,X=⟨x.toArray⟩:=⟨_,rfl⟩
   rw [← hX] at p0 hq
   clear hc hs HA hx hX HE
   generalize (p == x)=q at *
   cases q with
   | true =>
     have HZ:Hid (l.contains p=true):=by rw [Hid,hst];rfl
     clear hst
     go_wp2
     all_goals (try go_quiet (fail))
     all_goals (try go_wp2)
     go_ret
     exact ⟨⟨i,rfl,by rw [HZ.out];simp⟩,by first|exact hb.out|exact below_drewN hb.out _⟩
   | false =>
     have HZ:Hid ((l.drop (i+1)).contains p=l.contains p):=by rw [Hid,hst];rfl
     clear hst
     go_wp2
     all_goals (try go_quiet (fail))
     all_goals (try go_wp2)
     go_roundw
     case rel=>exact ⟨i+1,by go_num,by omega,by first|exact hb|exact below_drewN hb.out _,HZ⟩
     case measure=>simp [intOf];omega
  ·have e:i=N:=by omega
   subst e
   have HZ:Hid (l.contains p=false):=by rw [Hid,← hs.out,List.drop_of_length_le (by rw [HN1.out];exact Nat.le_refl _)];rfl
   clear hs HA
   go_wp2
   go_ret
   exact ⟨⟨-1,rfl,by rw [HZ.out];rfl⟩,hb.out⟩
theorem Zb0 (v:Value) (l:List (List UInt8)) (p:List UInt8) (W:World) (h:IsStrs W v l) :
 Calls Tryz.prog 71 #[v,.string ⟨p.toArray⟩] W fun e w'=>e=.returned (.bool (l.contains p))∧Bw W w':=by
 have HI:Hid (Calls Tryz.prog 90 #[v,.string ⟨p.toArray⟩] W fun e w'=>(∃ i:Int,e=.returned (.int .i64 i)∧Hid (decide (0≤i)=l.contains p))∧Bw W w'):=Zgc v l p W h
 obtain ⟨ao,cap,rfl,_,_,_⟩:=h
 go_enter Tryz.func71,Tryz.ntmps71
 go_wp2_with (go_at_call 90;refine (HI.out).mono ?_;rintro e w1 ⟨⟨i,rfl,hi⟩,hb1⟩)
 go_ret
 exact ⟨Za hi.out,hb1⟩
theorem IsStrs.take' {w:World} {ao:Option Addr} {cap K:Nat} {l:List (List UInt8)} (h:IsStrs w (.slice ao K cap) l) (hK:l.length=K) (k:Nat) (hk:k≤K):IsStrs w (.slice ao k cap) (l.take k):=by
 subst hK
 exact h.take k hk
def namB (nm su:ByteArray) (ifs:List (List UInt8)):Bool:=Zk nm.data.toList&&Zk su.data.toList&&!(nm.toList == su.toList)&&!decide (20<(ifs.length:Int))&&ifsB nm.data.toList [] ifs
theorem Zay (c:Cls) (vi vm:Value) (w:World) (hi:IsStrs w vi c.ifs) (hm:IsMths w vm c.ms) (hn:c.nm.size≤maxLen) (hsu:c.su.size≤maxLen) (hif:∀ p∈c.ifs,p.length≤maxLen) :
 Calls Tryz.prog 49 #[clsV c vi vm] w fun e w'=>e=.returned (.bool (namB c.nm c.su c.ifs))∧Bw w w':=by
 obtain ⟨nm,su,ifs,fl,ld,ms⟩:=c
 simp only at hi hm hn hsu hif ⊢
 have HV1:Hid (∀ w,_):=Y7 nm hn
 have HV2:Hid (∀ w,_):=Y7 su hsu
 have HI:Hid (IsStrs w vi ifs):=hi
 have HIF:Hid _:=hif
 have HR:Hid (namB nm su ifs=(Zk nm.data.toList&&Zk su.data.toList&&!(nm.toList == su.toList)&&!decide (20<(ifs.length:Int))&&ifsB nm.data.toList [] ifs)):=rfl
 obtain ⟨ai,capi,rfl,i1,i2,i3⟩:=hi
 obtain ⟨am,capm,rfl,m1,m2,_⟩:=hm
 have HIA:Hid _:=i3
 clear i3
 unfold maxLen at i2 m2
 unfold clsV
 simp only
 obtain ⟨K,hK⟩:∃ K,ifs.length=K:=⟨_,rfl⟩
 obtain ⟨M,hM⟩:∃ M,ms.length=M:=⟨_,rfl⟩
 rw [hK] at i1 HI HR ⊢
 rw [hM] at m1 ⊢
 have HK:Hid (ifs.length=K):=hK
 clear hn hsu hif hK hM
 generalize namB nm su ifs=z at *
 generalize Zk nm.data.toList=q1 at *
 generalize Zk su.data.toList=q2 at *
 generalize q3:(nm.toList == su.toList)=d3 at *
 cases q1 with
 | false =>
   go_enter Tryz.func49,Tryz.ntmps49
   go_wp2_with (first
    | (go_at_call 70;refine ((HV1.out) _).mono ?_;rintro e w1 ⟨rfl,hb1⟩;have hs1:w.heap.size<w1.heap.size:=sqS hb1;obtain ⟨a0,a1,a2,a3,a4,a5⟩:=sqX hb1 w.heap.size (.string nm) (.string su) (.slice ai K capi) (.int .i64 fl) (.int .i64 ld) (.slice am M capm);have B1:Hid (Bw w w1):=sqT hb1;clear hb1 HV1))
   go_ret
   exact ⟨Za (by rw [HR.out];simp [*]),B1.out⟩
 | true =>
 cases q2 with
 | false =>
   go_enter Tryz.func49,Tryz.ntmps49
   go_wp2_with (first
    | (go_at_call 70;refine ((HV1.out) _).mono ?_;rintro e w1 ⟨rfl,hb1⟩;have hs1:w.heap.size<w1.heap.size:=sqS hb1;obtain ⟨a0,a1,a2,a3,a4,a5⟩:=sqX hb1 w.heap.size (.string nm) (.string su) (.slice ai K capi) (.int .i64 fl) (.int .i64 ld) (.slice am M capm);have B1:Hid (Bw w w1):=sqT hb1;clear hb1 HV1)
    | (go_at_call 70;refine ((HV2.out) _).mono ?_;rintro e w2 ⟨rfl,hb2⟩;have hs2:w.heap.size<w2.heap.size:=(by have:=hb2.size;omega);have b0:=sqB hb2 w.heap.size 0 (.string nm) hs1;have b1:=sqB hb2 w.heap.size 1 (.string su) hs1;have b2:=sqB hb2 w.heap.size 2 (.slice ai K capi) hs1;have b3:=sqB hb2 w.heap.size 3 (.int .i64 fl) hs1;have b4:=sqB hb2 w.heap.size 4 (.int .i64 ld) hs1;have b5:=sqB hb2 w.heap.size 5 (.slice am M capm) hs1;clear a0 a1 a2 a3 a4 a5;have B2:Hid (Bw w w2):=Below.step B1.out hb2;clear hb2 HV2))
   go_ret
   exact ⟨Za (by rw [HR.out];simp [*]),B2.out⟩
 | true =>
 cases d3 with
 | true =>
   go_enter Tryz.func49,Tryz.ntmps49
   go_wp2_with (first
    | (go_at_call 70;refine ((HV1.out) _).mono ?_;rintro e w1 ⟨rfl,hb1⟩;have hs1:w.heap.size<w1.heap.size:=sqS hb1;obtain ⟨a0,a1,a2,a3,a4,a5⟩:=sqX hb1 w.heap.size (.string nm) (.string su) (.slice ai K capi) (.int .i64 fl) (.int .i64 ld) (.slice am M capm);have B1:Hid (Bw w w1):=sqT hb1;clear hb1 HV1)
    | (go_at_call 70;refine ((HV2.out) _).mono ?_;rintro e w2 ⟨rfl,hb2⟩;have hs2:w.heap.size<w2.heap.size:=(by have:=hb2.size;omega);have b0:=sqB hb2 w.heap.size 0 (.string nm) hs1;have b1:=sqB hb2 w.heap.size 1 (.string su) hs1;have b2:=sqB hb2 w.heap.size 2 (.slice ai K capi) hs1;have b3:=sqB hb2 w.heap.size 3 (.int .i64 fl) hs1;have b4:=sqB hb2 w.heap.size 4 (.int .i64 ld) hs1;have b5:=sqB hb2 w.heap.size 5 (.slice am M capm) hs1;clear a0 a1 a2 a3 a4 a5;have B2:Hid (Bw w w2):=Below.step B1.out hb2;clear hb2 HV2))
   go_ret
   exact ⟨Za (by rw [HR.out];simp [*]),B2.out⟩
 | false =>
 by_cases r1:20<(K:Int)
 ·go_enter Tryz.func49,Tryz.ntmps49
  go_wp2_with (first
   | (go_at_call 70;refine ((HV1.out) _).mono ?_;rintro e w1 ⟨rfl,hb1⟩;have hs1:w.heap.size<w1.heap.size:=sqS hb1;obtain ⟨a0,a1,a2,a3,a4,a5⟩:=sqX hb1 w.heap.size (.string nm) (.string su) (.slice ai K capi) (.int .i64 fl) (.int .i64 ld) (.slice am M capm);have B1:Hid (Bw w w1):=sqT hb1;clear hb1 HV1)
   | (go_at_call 70;refine ((HV2.out) _).mono ?_;rintro e w2 ⟨rfl,hb2⟩;have hs2:w.heap.size<w2.heap.size:=(by have:=hb2.size;omega);have b0:=sqB hb2 w.heap.size 0 (.string nm) hs1;have b1:=sqB hb2 w.heap.size 1 (.string su) hs1;have b2:=sqB hb2 w.heap.size 2 (.slice ai K capi) hs1;have b3:=sqB hb2 w.heap.size 3 (.int .i64 fl) hs1;have b4:=sqB hb2 w.heap.size 4 (.int .i64 ld) hs1;have b5:=sqB hb2 w.heap.size 5 (.slice am M capm) hs1;clear a0 a1 a2 a3 a4 a5;have B2:Hid (Bw w w2):=Below.step B1.out hb2;clear hb2 HV2))
  go_ret
  exact ⟨Za (by rw [HR.out];simp [*]),B2.out⟩
 have HR2:Hid (z=ifsB nm.data.toList [] ifs):=by rw [Hid,HR.out];simp [r1]
 clear HR
 go_enter Tryz.func49,Tryz.ntmps49
 go_wp2_with (first
  | (go_at_call 70;refine ((HV1.out) _).mono ?_;rintro e w1 ⟨rfl,hb1⟩;have hs1:w.heap.size<w1.heap.size:=sqS hb1;obtain ⟨a0,a1,a2,a3,a4,a5⟩:=sqX hb1 w.heap.size (.string nm) (.string su) (.slice ai K capi) (.int .i64 fl) (.int .i64 ld) (.slice am M capm);have B1:Hid (Bw w w1):=sqT hb1;clear hb1 HV1)
  | (go_at_call 70;refine ((HV2.out) _).mono ?_;rintro e w2 ⟨rfl,hb2⟩;have hs2:w.heap.size<w2.heap.size:=(by have:=hb2.size;omega);have b0:=sqB hb2 w.heap.size 0 (.string nm) hs1;have b1:=sqB hb2 w.heap.size 1 (.string su) hs1;have b2:=sqB hb2 w.heap.size 2 (.slice ai K capi) hs1;have b3:=sqB hb2 w.heap.size 3 (.int .i64 fl) hs1;have b4:=sqB hb2 w.heap.size 4 (.int .i64 ld) hs1;have b5:=sqB hb2 w.heap.size 5 (.slice am M capm) hs1;clear a0 a1 a2 a3 a4 a5;have B2:Hid (Bw w w2):=Below.step B1.out hb2;clear hb2 HV2))
 have HC3:Hid (CB w2 w.heap.size nm su (.slice ai K capi) fl ld (.slice am M capm)):=⟨hs2,b0,b1,b2,b3,b4,b5⟩
 clear b0 b1 b2 b3 b4 b5 hs1 hs2 B1
 go_loopw [31] (fun iv wr=>∃ i:Nat,iv=.int .i64 i∧i≤K∧Hid (CB wr w.heap.size nm su (.slice ai K capi) fl ld (.slice am M capm))∧Hid (Bw w wr)∧Hid (ifsB nm.data.toList (ifs.take i) (ifs.drop i)=ifsB nm.data.toList [] ifs)) (fun iv _=>K - (intOf iv).toNat)
 case atStart=>exact ⟨0,rfl,Nat.zero_le _,HC3,B2,rfl⟩
 case round =>
  obtain ⟨i,rfl,hi,hcb,hb,hs⟩:=hrel
  clear HC3 B2
  by_cases hlt:i<K
  ·obtain ⟨bk,o,hao,hbk,hc⟩:=HIA.out (by intro e;have:=HK.out;rw [e] at this;simp at this;omega)
   obtain ⟨p,hp⟩:∃ p,ifs[i]?=some p:=⟨_,List.getElem?_eq_getElem (by rw [HK.out];exact hlt)⟩
   subst hao
   have hst:=Zij nm.data.toList i p hp
   rw [hs.out] at hst
   have e1:=(hb.out.cell hbk).trans (hc i p hp)
   have hpl:p.length≤maxLen:=HIF.out p (List.mem_of_getElem? hp)
   have hpn:((⟨p.toArray⟩:ByteArray).toList == nm.toList)=(p == nm.data.toList):=by rw [Lib.toList_data,Lib.toList_data]
   have HVP:Hid (∀ w':World,Calls Tryz.prog 70 #[.string ⟨p.toArray⟩] w' fun e w''=>e=.returned (.bool (Zk p))∧Below w'.heap.size w' w''):=fun w'=>Y7 ⟨p.toArray⟩ (by simpa [ByteArray.size] using hpl) w'
   have HCN:Hid (∀ w':World,Bw w w'→Calls Tryz.prog 71 #[.slice (some ⟨bk,o,none⟩) i capi,.string ⟨p.toArray⟩] w' fun e w''=>e=.returned (.bool ((ifs.take i).contains p))∧Below w'.heap.size w' w''):=fun w' h=>Zb0 _ _ p w' ((HI.out.keep h).take' HK.out i hi)
   obtain ⟨P,hP⟩:∃ P:ByteArray,P=⟨p.toArray⟩:=⟨_,rfl⟩
   rw [← hP] at e1 hpn HVP HCN
   obtain ⟨g0,d0,d1,d2,d3,d4,d5⟩:=hcb.out
   clear hc hs hP hp hpl HIA HIF
   generalize Zk p=vp at *
   generalize (p == nm.data.toList)=pn at *
   generalize (ifs.take i).contains p=pc at *
   cases vp with
   | false =>
     have HZ:Hid (z=false):=by rw [Hid,HR2.out,hst];simp
     clear hst HR2
     go_wp2_with (first
      | (go_at_call 70;refine ((HVP.out) _).mono ?_;rintro e w3 ⟨rfl,hb3⟩;have k0:w3.cell? ⟨w.heap.size,0,none⟩=some (.string nm):=(hb3.cell g0).trans d0;have k2:w3.cell? ⟨w.heap.size,2,none⟩=some (.slice (some ⟨bk,o,none⟩) K capi):=(hb3.cell g0).trans d2;have B3:Hid (Bw w w3):=Below.step hb.out hb3;have HC4:Hid (CB w3 w.heap.size nm su (.slice (some ⟨bk,o,none⟩) K capi) fl ld (.slice am M capm)):=hcb.out.keep hb3;clear hb3))
     go_ret
     exact ⟨Za HZ.out.symm,B3.out⟩
   | true =>
   cases pn with
   | true =>
     have HZ:Hid (z=false):=by rw [Hid,HR2.out,hst];simp
     clear hst HR2
     go_wp2_with (first
      | (go_at_call 70;refine ((HVP.out) _).mono ?_;rintro e w3 ⟨rfl,hb3⟩;have k0:w3.cell? ⟨w.heap.size,0,none⟩=some (.string nm):=(hb3.cell g0).trans d0;have k2:w3.cell? ⟨w.heap.size,2,none⟩=some (.slice (some ⟨bk,o,none⟩) K capi):=(hb3.cell g0).trans d2;have B3:Hid (Bw w w3):=Below.step hb.out hb3;have HC4:Hid (CB w3 w.heap.size nm su (.slice (some ⟨bk,o,none⟩) K capi) fl ld (.slice am M capm)):=hcb.out.keep hb3;clear hb3))
     go_ret
     exact ⟨Za HZ.out.symm,B3.out⟩
   | false =>
   cases pc with
   | true =>
     have HZ:Hid (z=false):=by rw [Hid,HR2.out,hst];simp
     clear hst HR2
     go_wp2_with (first
      | (go_at_call 70;refine ((HVP.out) _).mono ?_;rintro e w3 ⟨rfl,hb3⟩;have k0:w3.cell? ⟨w.heap.size,0,none⟩=some (.string nm):=(hb3.cell g0).trans d0;have k2:w3.cell? ⟨w.heap.size,2,none⟩=some (.slice (some ⟨bk,o,none⟩) K capi):=(hb3.cell g0).trans d2;have B3:Hid (Bw w w3):=Below.step hb.out hb3;have HC4:Hid (CB w3 w.heap.size nm su (.slice (some ⟨bk,o,none⟩) K capi) fl ld (.slice am M capm)):=hcb.out.keep hb3;clear hb3)
      | (go_at_call 71;refine ((HCN.out) _ B3.out).mono ?_;rintro e w4 ⟨rfl,hb4⟩;have B4:Hid (Bw w w4):=Below.step B3.out hb4;have HC5:Hid (CB w4 w.heap.size nm su (.slice (some ⟨bk,o,none⟩) K capi) fl ld (.slice am M capm)):=HC4.out.keep hb4;clear hb4))
     go_ret
     exact ⟨Za HZ.out.symm,B4.out⟩
   | false =>
     have HZ:Hid (ifsB nm.data.toList (ifs.take (i+1)) (ifs.drop (i+1))=ifsB nm.data.toList [] ifs):=by rw [Hid,hst];simp
     clear hst
     go_wp2_with (first
      | (go_at_call 70;refine ((HVP.out) _).mono ?_;rintro e w3 ⟨rfl,hb3⟩;have k0:w3.cell? ⟨w.heap.size,0,none⟩=some (.string nm):=(hb3.cell g0).trans d0;have k2:w3.cell? ⟨w.heap.size,2,none⟩=some (.slice (some ⟨bk,o,none⟩) K capi):=(hb3.cell g0).trans d2;have B3:Hid (Bw w w3):=Below.step hb.out hb3;have HC4:Hid (CB w3 w.heap.size nm su (.slice (some ⟨bk,o,none⟩) K capi) fl ld (.slice am M capm)):=hcb.out.keep hb3;clear hb3)
      | (go_at_call 71;refine ((HCN.out) _ B3.out).mono ?_;rintro e w4 ⟨rfl,hb4⟩;have B4:Hid (Bw w w4):=Below.step B3.out hb4;have HC5:Hid (CB w4 w.heap.size nm su (.slice (some ⟨bk,o,none⟩) K capi) fl ld (.slice am M capm)):=HC4.out.keep hb4;clear hb4))
     go_roundw
     case rel=>exact ⟨i+1,by go_num,by omega,HC5,B4,HZ⟩
     case measure=>simp [intOf];omega
  ·have e:i=K:=by omega
   subst e
   have HZ:Hid (z=true):=by
    rw [Hid,HR2.out,← hs.out,List.drop_of_length_le (by rw [HK.out];exact Nat.le_refl _)];rfl
   clear HR2 hs HIA HIF
   go_wp2
   go_ret
   exact ⟨Za HZ.out.symm,hb.out⟩
end Go.Proofs.YtkoogmegdfpopaaGreat
