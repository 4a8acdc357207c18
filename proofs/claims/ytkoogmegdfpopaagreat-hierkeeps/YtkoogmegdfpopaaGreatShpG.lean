import Derived.Test.YtkoogmegdfpopaaGreatShpC
set_option maxHeartbeats 16000000
set_option maxRecDepth 100000
namespace Go.Proofs.YtkoogmegdfpopaaGreat
open Go.RowKit
def ifsB (nm:List UInt8):List (List UInt8)→List (List UInt8)→Bool
 | _,[]=>true
 | pre,p::r=>Zk p&&!(p == nm)&&!(pre.contains p)&&ifsB nm (pre++[p]) r
theorem Zij (nm:List UInt8) {l:List (List UInt8)} (k:Nat) (p:List UInt8) (h:l[k]?=some p):ifsB nm (l.take k) (l.drop k)=(Zk p&&!(p == nm)&&!((l.take k).contains p)&&ifsB nm (l.take (k+1)) (l.drop (k+1))):=by
 obtain ⟨h1,h2⟩:=List.getElem?_eq_some_iff.1 h
 rw [List.drop_eq_getElem_cons h1,h2,ifsB,List.take_add_one,h];rfl
theorem take_has {l:List (List UInt8)} {i j:Nat} {p:List UInt8} (h:l[j]?=some p) (hj:j<i):(l.take i).contains p=true:=by
 rw [List.contains_iff_mem]
 exact List.mem_of_getElem? (i:=j) (by rw [List.getElem?_take_of_lt hj];exact h)
theorem take_not {l:List (List UInt8)} {i:Nat} {p:List UInt8} (h:∀ j,j<i→l[j]?≠some p):(l.take i).contains p=false:=by
 rw [Bool.eq_false_iff]
 intro hc
 rw [List.contains_iff_mem] at hc
 obtain ⟨j,hj⟩:=List.mem_iff_getElem?.1 hc
 rw [List.getElem?_take] at hj
 split at hj
 ·exact h j (by assumption) hj
 ·cases hj
theorem below_drewN {B:Nat} {a w:World} (h:Below B a w) (n:Nat):Below B a (w.drewN n):=⟨h.os,h.tape,h.output,h.size,h.block⟩
theorem Zfv (C:World→Prop) (h:∃ w,C w):∃ (σ:Type) (V:σ→World),Nonempty σ∧Hid (∀ s,C (V s))∧Hid (∀ w,C w→∃ s,w=V s) :=
 ⟨{w // C w},Subtype.val,h.elim fun w hw=>⟨⟨w,hw⟩⟩,fun s=>s.2,fun w hw=>⟨⟨w,hw⟩,rfl⟩⟩
def CB (w:World) (b:Nat) (nm su:ByteArray) (vi:Value) (fl ld:Int) (vm:Value):Prop :=
 b<w.heap.size∧w.cell? ⟨b,0,none⟩=some (.string nm)∧w.cell? ⟨b,1,none⟩=some (.string su)∧w.cell? ⟨b,2,none⟩=some vi∧w.cell? ⟨b,3,none⟩=some (.int .i64 fl)∧w.cell? ⟨b,4,none⟩=some (.int .i64 ld)∧w.cell? ⟨b,5,none⟩=some vm
theorem CB.keep {w w':World} {b:Nat} {nm su:ByteArray} {vi:Value} {fl ld:Int} {vm:Value} (h:CB w b nm su vi fl ld vm) (hb:Bw w w'):CB w' b nm su vi fl ld vm:=by
 obtain ⟨h,h0,h1,h2,h3,h4,h5⟩:=h
 exact ⟨Nat.lt_of_lt_of_le h hb.size,(hb.cell h).trans h0,(hb.cell h).trans h1,(hb.cell h).trans h2,(hb.cell h).trans h3,(hb.cell h).trans h4,(hb.cell h).trans h5⟩
def Yv (iface:Bool) (all:List Mth):List Mth→Nat→Bool
 | [],_=>true
 | m::r,k=>mthB m iface&&(Yl m.nm m.ds all 0 == (k:Int))&&Yv iface all r (k+1)
theorem Zfm (iface:Bool) (all:List Mth) {l:List Mth} (k:Nat) (x:Mth) (h:l[k]?=some x):Yv iface all (l.drop k) k=(mthB x iface&&(Yl x.nm x.ds all 0 == (k:Int))&&Yv iface all (l.drop (k+1)) (k+1)):=by
 obtain ⟨h1,h2⟩:=List.getElem?_eq_some_iff.1 h
 rw [List.drop_eq_getElem_cons h1,h2,Yv]
def clsB (c:Cls):Bool :=
 Zk c.nm.data.toList&&Zk c.su.data.toList&&!(c.nm.toList == c.su.toList)&&!decide (20<(c.ifs.length:Int))&&!decide (40<(c.ms.length:Int))&&!decide (c.ld<0)&&!decide (9<c.ld)&&(chkC c.fl == 0) &&
  ifsB c.nm.data.toList [] c.ifs&&Yv (hasI c.fl 512) c.ms c.ms 0
def clsE (c:Cls):Int:=if clsB c then 0 else 1
def MthOK (m:Mth):Prop:=m.nm.size≤maxLen∧m.ds.size≤maxLen∧∀ i∈m.code,Ze7 i
theorem Zep (c:Cls) (vi vm:Value) (w:World) (hi:IsStrs w vi c.ifs) (hm:IsMths w vm c.ms) (hn:c.nm.size≤maxLen) (hsu:c.su.size≤maxLen) (hif:∀ p∈c.ifs,p.length≤maxLen) (hmo:∀ m∈c.ms,MthOK m) :
 Calls Tryz.prog 31 #[clsV c vi vm] w fun e w'=>e=.returned (.int .i64 (clsE c))∧Bw w w':=by
 obtain ⟨nm,su,ifs,fl,ld,ms⟩:=c
 simp only at hi hm hn hsu hif hmo
 have HV1:Hid (∀ w,_):=Yt nm hn
 have HV2:Hid (∀ w,_):=Yt su hsu
 have HCC:Hid (∀ w,_):=Zal fl
 have HI:Hid (IsStrs w vi ifs):=hi
 have HM:Hid (IsMths w vm ms):=hm
 have HIF:Hid _:=hif
 have HMO:Hid _:=hmo
 have HR:Hid (clsE ⟨nm,su,ifs,fl,ld,ms⟩=if (Zk nm.data.toList&&Zk su.data.toList&&!(nm.toList == su.toList)&&!decide (20<(ifs.length:Int))&&!decide (40<(ms.length:Int))&&!decide (ld<0)&&!decide (9<ld)&&(chkC fl == 0) &&
  ifsB nm.data.toList [] ifs&&Yv (hasI fl 512) ms ms 0) then 0 else 1):=rfl
 obtain ⟨ai,capi,rfl,i1,i2,i3⟩:=hi
 obtain ⟨am,capm,rfl,m1,m2,m3⟩:=hm
 have HIA:Hid _:=i3
 have HMA:Hid _:=m3
 clear i3 m3
 unfold maxLen at i2 m2
 unfold clsV
 simp only
 obtain ⟨K,hK⟩:∃ K,ifs.length=K:=⟨_,rfl⟩
 obtain ⟨M,hM⟩:∃ M,ms.length=M:=⟨_,rfl⟩
 rw [hK] at i1 HI HR ⊢
 rw [hM] at m1 HM HR ⊢
 have HK:Hid (ifs.length=K):=hK
 have HL:Hid (ms.length=M):=hM
 clear hn hsu hif hmo hK hM
 generalize clsE ⟨nm,su,ifs,fl,ld,ms⟩=z at *
 generalize Zk nm.data.toList=q1 at *
 generalize Zk su.data.toList=q2 at *
 generalize q3:(nm.toList == su.toList)=d3 at *
 generalize chkC fl=ck at *
 cases q1 with
 | false =>
   go_enter Tryz.func31,Tryz.ntmps31
   go_wp2_with (first
    | (go_at_call 57;refine ((HV1.out) _).mono ?_;rintro e w1 ⟨rfl,hb1⟩;have hs1:w.heap.size<w1.heap.size:=sqS hb1;obtain ⟨a0,a1,a2,a3,a4,a5⟩:=sqX hb1 w.heap.size (.string nm) (.string su) (.slice ai K capi) (.int .i64 fl) (.int .i64 ld) (.slice am M capm);have B1:Hid (Bw w w1):=sqT hb1;clear hb1 HV1))
   go_ret
   exact ⟨Zf (by rw [HR.out];simp [*]),B1.out⟩
 | true =>
 cases q2 with
 | false =>
   go_enter Tryz.func31,Tryz.ntmps31
   go_wp2_with (first
    | (go_at_call 57;refine ((HV1.out) _).mono ?_;rintro e w1 ⟨rfl,hb1⟩;have hs1:w.heap.size<w1.heap.size:=sqS hb1;obtain ⟨a0,a1,a2,a3,a4,a5⟩:=sqX hb1 w.heap.size (.string nm) (.string su) (.slice ai K capi) (.int .i64 fl) (.int .i64 ld) (.slice am M capm);have B1:Hid (Bw w w1):=sqT hb1;clear hb1 HV1)
    | (go_at_call 57;refine ((HV2.out) _).mono ?_;rintro e w2 ⟨rfl,hb2⟩;have hs2:w.heap.size<w2.heap.size:=(by have:=hb2.size;omega);have b0:=sqB hb2 w.heap.size 0 (.string nm) hs1;have b1:=sqB hb2 w.heap.size 1 (.string su) hs1;have b2:=sqB hb2 w.heap.size 2 (.slice ai K capi) hs1;have b3:=sqB hb2 w.heap.size 3 (.int .i64 fl) hs1;have b4:=sqB hb2 w.heap.size 4 (.int .i64 ld) hs1;have b5:=sqB hb2 w.heap.size 5 (.slice am M capm) hs1;clear a0 a1 a2 a3 a4 a5;have B2:Hid (Bw w w2):=Below.step B1.out hb2;clear hb2 HV2))
   go_ret
   exact ⟨Zf (by rw [HR.out];simp [*]),B2.out⟩
 | true =>
 cases d3 with
 | true =>
   go_enter Tryz.func31,Tryz.ntmps31
   go_wp2_with (first
    | (go_at_call 57;refine ((HV1.out) _).mono ?_;rintro e w1 ⟨rfl,hb1⟩;have hs1:w.heap.size<w1.heap.size:=sqS hb1;obtain ⟨a0,a1,a2,a3,a4,a5⟩:=sqX hb1 w.heap.size (.string nm) (.string su) (.slice ai K capi) (.int .i64 fl) (.int .i64 ld) (.slice am M capm);have B1:Hid (Bw w w1):=sqT hb1;clear hb1 HV1)
    | (go_at_call 57;refine ((HV2.out) _).mono ?_;rintro e w2 ⟨rfl,hb2⟩;have hs2:w.heap.size<w2.heap.size:=(by have:=hb2.size;omega);have b0:=sqB hb2 w.heap.size 0 (.string nm) hs1;have b1:=sqB hb2 w.heap.size 1 (.string su) hs1;have b2:=sqB hb2 w.heap.size 2 (.slice ai K capi) hs1;have b3:=sqB hb2 w.heap.size 3 (.int .i64 fl) hs1;have b4:=sqB hb2 w.heap.size 4 (.int .i64 ld) hs1;have b5:=sqB hb2 w.heap.size 5 (.slice am M capm) hs1;clear a0 a1 a2 a3 a4 a5;have B2:Hid (Bw w w2):=Below.step B1.out hb2;clear hb2 HV2))
   go_ret
   exact ⟨Zf (by rw [HR.out];simp [*]),B2.out⟩
 | false =>
 by_cases r1:20<(K:Int)
 ·go_enter Tryz.func31,Tryz.ntmps31
  go_wp2_with (first
   | (go_at_call 57;refine ((HV1.out) _).mono ?_;rintro e w1 ⟨rfl,hb1⟩;have hs1:w.heap.size<w1.heap.size:=sqS hb1;obtain ⟨a0,a1,a2,a3,a4,a5⟩:=sqX hb1 w.heap.size (.string nm) (.string su) (.slice ai K capi) (.int .i64 fl) (.int .i64 ld) (.slice am M capm);have B1:Hid (Bw w w1):=sqT hb1;clear hb1 HV1)
   | (go_at_call 57;refine ((HV2.out) _).mono ?_;rintro e w2 ⟨rfl,hb2⟩;have hs2:w.heap.size<w2.heap.size:=(by have:=hb2.size;omega);have b0:=sqB hb2 w.heap.size 0 (.string nm) hs1;have b1:=sqB hb2 w.heap.size 1 (.string su) hs1;have b2:=sqB hb2 w.heap.size 2 (.slice ai K capi) hs1;have b3:=sqB hb2 w.heap.size 3 (.int .i64 fl) hs1;have b4:=sqB hb2 w.heap.size 4 (.int .i64 ld) hs1;have b5:=sqB hb2 w.heap.size 5 (.slice am M capm) hs1;clear a0 a1 a2 a3 a4 a5;have B2:Hid (Bw w w2):=Below.step B1.out hb2;clear hb2 HV2))
  go_ret
  exact ⟨Zf (by rw [HR.out];simp [*]),B2.out⟩
 by_cases r2:40<(M:Int)
 ·go_enter Tryz.func31,Tryz.ntmps31
  go_wp2_with (first
   | (go_at_call 57;refine ((HV1.out) _).mono ?_;rintro e w1 ⟨rfl,hb1⟩;have hs1:w.heap.size<w1.heap.size:=sqS hb1;obtain ⟨a0,a1,a2,a3,a4,a5⟩:=sqX hb1 w.heap.size (.string nm) (.string su) (.slice ai K capi) (.int .i64 fl) (.int .i64 ld) (.slice am M capm);have B1:Hid (Bw w w1):=sqT hb1;clear hb1 HV1)
   | (go_at_call 57;refine ((HV2.out) _).mono ?_;rintro e w2 ⟨rfl,hb2⟩;have hs2:w.heap.size<w2.heap.size:=(by have:=hb2.size;omega);have b0:=sqB hb2 w.heap.size 0 (.string nm) hs1;have b1:=sqB hb2 w.heap.size 1 (.string su) hs1;have b2:=sqB hb2 w.heap.size 2 (.slice ai K capi) hs1;have b3:=sqB hb2 w.heap.size 3 (.int .i64 fl) hs1;have b4:=sqB hb2 w.heap.size 4 (.int .i64 ld) hs1;have b5:=sqB hb2 w.heap.size 5 (.slice am M capm) hs1;clear a0 a1 a2 a3 a4 a5;have B2:Hid (Bw w w2):=Below.step B1.out hb2;clear hb2 HV2))
  go_ret
  exact ⟨Zf (by rw [HR.out];simp [*]),B2.out⟩
 by_cases r3:ld<0
 ·go_enter Tryz.func31,Tryz.ntmps31
  go_wp2_with (first
   | (go_at_call 57;refine ((HV1.out) _).mono ?_;rintro e w1 ⟨rfl,hb1⟩;have hs1:w.heap.size<w1.heap.size:=sqS hb1;obtain ⟨a0,a1,a2,a3,a4,a5⟩:=sqX hb1 w.heap.size (.string nm) (.string su) (.slice ai K capi) (.int .i64 fl) (.int .i64 ld) (.slice am M capm);have B1:Hid (Bw w w1):=sqT hb1;clear hb1 HV1)
   | (go_at_call 57;refine ((HV2.out) _).mono ?_;rintro e w2 ⟨rfl,hb2⟩;have hs2:w.heap.size<w2.heap.size:=(by have:=hb2.size;omega);have b0:=sqB hb2 w.heap.size 0 (.string nm) hs1;have b1:=sqB hb2 w.heap.size 1 (.string su) hs1;have b2:=sqB hb2 w.heap.size 2 (.slice ai K capi) hs1;have b3:=sqB hb2 w.heap.size 3 (.int .i64 fl) hs1;have b4:=sqB hb2 w.heap.size 4 (.int .i64 ld) hs1;have b5:=sqB hb2 w.heap.size 5 (.slice am M capm) hs1;clear a0 a1 a2 a3 a4 a5;have B2:Hid (Bw w w2):=Below.step B1.out hb2;clear hb2 HV2))
  go_ret
  exact ⟨Zf (by rw [HR.out];simp [*]),B2.out⟩
 by_cases r4:9<ld
 ·go_enter Tryz.func31,Tryz.ntmps31
  go_wp2_with (first
   | (go_at_call 57;refine ((HV1.out) _).mono ?_;rintro e w1 ⟨rfl,hb1⟩;have hs1:w.heap.size<w1.heap.size:=sqS hb1;obtain ⟨a0,a1,a2,a3,a4,a5⟩:=sqX hb1 w.heap.size (.string nm) (.string su) (.slice ai K capi) (.int .i64 fl) (.int .i64 ld) (.slice am M capm);have B1:Hid (Bw w w1):=sqT hb1;clear hb1 HV1)
   | (go_at_call 57;refine ((HV2.out) _).mono ?_;rintro e w2 ⟨rfl,hb2⟩;have hs2:w.heap.size<w2.heap.size:=(by have:=hb2.size;omega);have b0:=sqB hb2 w.heap.size 0 (.string nm) hs1;have b1:=sqB hb2 w.heap.size 1 (.string su) hs1;have b2:=sqB hb2 w.heap.size 2 (.slice ai K capi) hs1;have b3:=sqB hb2 w.heap.size 3 (.int .i64 fl) hs1;have b4:=sqB hb2 w.heap.size 4 (.int .i64 ld) hs1;have b5:=sqB hb2 w.heap.size 5 (.slice am M capm) hs1;clear a0 a1 a2 a3 a4 a5;have B2:Hid (Bw w w2):=Below.step B1.out hb2;clear hb2 HV2))
  go_ret
  exact ⟨Zf (by rw [HR.out];simp [*]),B2.out⟩
 by_cases hck:¬ ck=0
 ·have hne:(ck != 0)=true:=by rw [bne_iff_ne];exact hck
  have hne2:(ck == 0)=false:=by rw [beq_eq_false_iff_ne];exact hck
  go_enter Tryz.func31,Tryz.ntmps31
  go_wp2_with (first
   | (go_at_call 57;refine ((HV1.out) _).mono ?_;rintro e w1 ⟨rfl,hb1⟩;have hs1:w.heap.size<w1.heap.size:=sqS hb1;obtain ⟨a0,a1,a2,a3,a4,a5⟩:=sqX hb1 w.heap.size (.string nm) (.string su) (.slice ai K capi) (.int .i64 fl) (.int .i64 ld) (.slice am M capm);have B1:Hid (Bw w w1):=sqT hb1;clear hb1 HV1)
   | (go_at_call 57;refine ((HV2.out) _).mono ?_;rintro e w2 ⟨rfl,hb2⟩;have hs2:w.heap.size<w2.heap.size:=(by have:=hb2.size;omega);have b0:=sqB hb2 w.heap.size 0 (.string nm) hs1;have b1:=sqB hb2 w.heap.size 1 (.string su) hs1;have b2:=sqB hb2 w.heap.size 2 (.slice ai K capi) hs1;have b3:=sqB hb2 w.heap.size 3 (.int .i64 fl) hs1;have b4:=sqB hb2 w.heap.size 4 (.int .i64 ld) hs1;have b5:=sqB hb2 w.heap.size 5 (.slice am M capm) hs1;clear a0 a1 a2 a3 a4 a5;have B2:Hid (Bw w w2):=Below.step B1.out hb2;clear hb2 HV2)
   | (go_at_call 58;refine ((HCC.out) _).mono ?_;rintro e w3 ⟨rfl,hb3⟩;have hs3:w.heap.size<w3.heap.size:=(by have:=hb3.size;omega);have c0:=sqB hb3 w.heap.size 0 (.string nm) hs2;have c1:=sqB hb3 w.heap.size 1 (.string su) hs2;have c2:=sqB hb3 w.heap.size 2 (.slice ai K capi) hs2;have c3:=sqB hb3 w.heap.size 3 (.int .i64 fl) hs2;have c4:=sqB hb3 w.heap.size 4 (.int .i64 ld) hs2;have c5:=sqB hb3 w.heap.size 5 (.slice am M capm) hs2;clear b0 b1 b2 b3 b4 b5;have B3:Hid (Bw w w3):=Below.step B2.out hb3;clear hb3 HCC))
  go_ret
  exact ⟨Zf (by rw [HR.out];simp [*]),B3.out⟩
 have hck2:ck=0:=by omega
 clear hck
 subst hck2
 have HR2:Hid (z=if (ifsB nm.data.toList [] ifs&&Yv (hasI fl 512) ms ms 0) then 0 else 1):=by rw [Hid,HR.out];simp [*]
 clear HR
 go_enter Tryz.func31,Tryz.ntmps31
 go_wp2_with (first
  | (go_at_call 57;refine ((HV1.out) _).mono ?_;rintro e w1 ⟨rfl,hb1⟩;have hs1:w.heap.size<w1.heap.size:=sqS hb1;obtain ⟨a0,a1,a2,a3,a4,a5⟩:=sqX hb1 w.heap.size (.string nm) (.string su) (.slice ai K capi) (.int .i64 fl) (.int .i64 ld) (.slice am M capm);have B1:Hid (Bw w w1):=sqT hb1;clear hb1 HV1)
  | (go_at_call 57;refine ((HV2.out) _).mono ?_;rintro e w2 ⟨rfl,hb2⟩;have hs2:w.heap.size<w2.heap.size:=(by have:=hb2.size;omega);have b0:=sqB hb2 w.heap.size 0 (.string nm) hs1;have b1:=sqB hb2 w.heap.size 1 (.string su) hs1;have b2:=sqB hb2 w.heap.size 2 (.slice ai K capi) hs1;have b3:=sqB hb2 w.heap.size 3 (.int .i64 fl) hs1;have b4:=sqB hb2 w.heap.size 4 (.int .i64 ld) hs1;have b5:=sqB hb2 w.heap.size 5 (.slice am M capm) hs1;clear a0 a1 a2 a3 a4 a5;have B2:Hid (Bw w w2):=Below.step B1.out hb2;clear hb2 HV2)
  | (go_at_call 58;refine ((HCC.out) _).mono ?_;rintro e w3 ⟨rfl,hb3⟩;have hs3:w.heap.size<w3.heap.size:=(by have:=hb3.size;omega);have c0:=sqB hb3 w.heap.size 0 (.string nm) hs2;have c1:=sqB hb3 w.heap.size 1 (.string su) hs2;have c2:=sqB hb3 w.heap.size 2 (.slice ai K capi) hs2;have c3:=sqB hb3 w.heap.size 3 (.int .i64 fl) hs2;have c4:=sqB hb3 w.heap.size 4 (.int .i64 ld) hs2;have c5:=sqB hb3 w.heap.size 5 (.slice am M capm) hs2;clear b0 b1 b2 b3 b4 b5;have B3:Hid (Bw w w3):=Below.step B2.out hb3;clear hb3 HCC))
 have HC3:Hid (CB w3 w.heap.size nm su (.slice ai K capi) fl ld (.slice am M capm)):=⟨hs3,c0,c1,c2,c3,c4,c5⟩
 clear c0 c1 c2 c3 c4 c5 B1 B2 hs1 hs2 hs3 r1 r2 r3 r4
 go_loopg [3] K (fun g iv wr=>∃ i:Nat,iv=.int .i64 i∧i≤K∧g=K - i∧Hid (CB wr w.heap.size nm su (.slice ai K capi) fl ld (.slice am M capm))∧Hid (Bw w wr)∧Hid (ifsB nm.data.toList (ifs.take i) (ifs.drop i)=ifsB nm.data.toList [] ifs))
 case atStart=>exact ⟨0,rfl,Nat.zero_le _,rfl,HC3,B3,rfl⟩
 case round =>
  obtain ⟨i,rfl,hi,rfl,hcb,hb,hs⟩:=hrel
  clear HC3 B3
  by_cases hlt:i<K
  ·obtain ⟨bk,o,hao,hbk,hc⟩:=HIA.out (by intro e;have:=HK.out;rw [e] at this;simp at this;omega)
   obtain ⟨p,hp⟩:∃ p,ifs[i]?=some p:=⟨_,List.getElem?_eq_getElem (by rw [HK.out];exact hlt)⟩
   subst hao
   have hst:=Zij nm.data.toList i p hp
   rw [hs.out] at hst
   have HV:Hid (∀ w,_):=Yt ⟨p.toArray⟩ (by have:=HIF.out p (List.mem_of_getElem? hp);show p.toArray.size≤_;simpa using this)
   have hpd:(⟨p.toArray⟩:ByteArray).data.toList=p:=by simp
   rw [hpd] at HV
   have hqq:((⟨p.toArray⟩:ByteArray).toList == nm.toList)=(p == nm.data.toList):=by rw [Lib.toList_data,Lib.toList_data,hpd]
   have hpp:∀ q:List UInt8,((⟨p.toArray⟩:ByteArray).toList == (⟨q.toArray⟩:ByteArray).toList)=(p == q):=fun q=>by rw [Lib.toList_data,Lib.toList_data,hpd,show (⟨q.toArray⟩:ByteArray).data.toList=q by simp]
   obtain ⟨P,hP⟩:∃ P:ByteArray,P=⟨p.toArray⟩:=⟨_,rfl⟩
   have HCI:Hid (∀ k q,ifs[k]?=some q→wr.cell? ⟨bk,o+k,none⟩=some (.string ⟨q.toArray⟩)):=fun k q hk=>(hb.out.cell hbk).trans (hc k q hk)
   have e1:wr.cell? ⟨bk,o+i,none⟩=some (.string P):=by rw [hP];exact HCI.out i p hp
   have hbk2:bk<wr.heap.size:=Nat.lt_of_lt_of_le hbk hb.out.size
   rw [← hP] at hqq HV
   rw [← hP] at hpp
   have HPP:Hid _:=hpp
   have HP:Hid (ifs[i]?=some p):=hp
   clear hP hpd hpp hp
   obtain ⟨σ,V,hne,V1,V2⟩:=Zfv (fun w'=>Bw wr w') ⟨_,Below.refl _ _⟩
   obtain ⟨g0,d0,d1,d2,d3,d4,d5⟩:=hcb.out
   have v0:∀ s,(V s).cell? ⟨w.heap.size,0,none⟩=some (.string nm):=fun s=>((V1.out s).cell g0).trans d0
   have v2:∀ s,(V s).cell? ⟨w.heap.size,2,none⟩=some (.slice (some ⟨bk,o,none⟩) K capi):=fun s=>((V1.out s).cell g0).trans d2
   have v9:∀ s,(V s).cell? ⟨bk,o+i,none⟩=some (.string P):=fun s=>((V1.out s).cell hbk2).trans e1
   generalize hvp:Zk p=vp at *
   have HVs:Hid (∀ s,Calls Tryz.prog 57 #[.string P] (V s) fun e w''=>e=.returned (.bool vp)∧∃ s',w''=V s'):=fun s=>(HV.out (V s)).mono fun e w'' zz=>⟨zz.1,V2.out _ (Below.step (V1.out s) zz.2)⟩
   clear hc HV hvp
   cases vp with
   | false =>
     have HZ:Hid (z=1):=by rw [Hid,HR2.out,hst];simp
     clear hst HR2 hs d0 d1 d3 d4 d5 g0 e1 hqq
     go_wp2
     clear d2
     refine Zl (C:=fun w'=>∃ s,w'=V s) (by kernel_rfl) (by kernel_rfl) (V2.out _ ((Below.refl _ _).drew)) ?_
     repeat (go_big_quiet_step ((go_at_call 57;exact HVs.out _)))
     refine wpQuiet_nil ?_
     intro w9 hw9
     obtain ⟨s9,rfl⟩:=hw9
     go_wp2
     go_ret
     exact ⟨Zf HZ.out.symm,Below.step hb.out (V1.out s9)⟩
   | true =>
     generalize (p == nm.data.toList)=pn at *
     cases pn with
     | true =>
       have HZ:Hid (z=1):=by rw [Hid,HR2.out,hst];simp
       clear hst HR2 hs d0 d1 d3 d4 d5 g0 e1
       go_wp2
       clear d2
       refine Zl (C:=fun w'=>∃ s,w'=V s) (by kernel_rfl) (by kernel_rfl) (V2.out _ ((Below.refl _ _).drew)) ?_
       repeat (go_big_quiet_step ((go_at_call 57;exact HVs.out _)))
       refine wpQuiet_nil ?_
       intro w9 hw9
       obtain ⟨s9,rfl⟩:=hw9
       go_wp2
       go_ret
       exact ⟨Zf HZ.out.symm,Below.step hb.out (V1.out s9)⟩
     | false =>
       have HST:Hid (ifsB nm.data.toList [] ifs=(!(ifs.take i).contains p&&ifsB nm.data.toList (ifs.take (i+1)) (ifs.drop (i+1)))):=by rw [Hid,hst];simp
       clear hst hs d0 d1 d3 d4 d5 g0 e1
       go_wp2
       clear d2
       refine Zl (C:=fun w'=>∃ s,w'=V s) (by kernel_rfl) (by kernel_rfl) (V2.out _ ((Below.refl _ _).drew)) ?_
       repeat (go_big_quiet_step ((go_at_call 57;exact HVs.out _)))
       refine wpQuiet_nil ?_
       intro w9 hw9
       obtain ⟨s9,rfl⟩:=hw9
       have hV9:Hid (Bw wr (V s9)):=V1.out s9
       have f2:=v2 s9
       have f9:=v9 s9
       clear v0 v2 v9 hqq HVs
       generalize V s9=w5 at *
       clear V1 V2 hne
       go_wp2
       go_loopg [4] i (fun g jv wi=>∃ j:Nat,jv=.int .i64 j∧j≤i∧g=i - j∧(∃ n,wi=w5.drewN n)∧Hid (∀ j',j'<j→ifs[j']?≠some p))
       case atStart=>exact ⟨0,rfl,Nat.zero_le _,rfl,⟨0,rfl⟩,fun j' h=>absurd h (Nat.not_lt_zero _)⟩
       case round =>
        obtain ⟨j,rfl,hj,rfl,⟨n,rfl⟩,hno⟩:=hrel
        by_cases hjl:j<i
        ·obtain ⟨q,hq⟩:∃ q,ifs[j]?=some q:=⟨_,List.getElem?_eq_getElem (by rw [HK.out];omega)⟩
         have f8:=(hV9.out.cell hbk2).trans (HCI.out j q hq)
         have hpq:=HPP.out q
         obtain ⟨QQ,hQQ⟩:∃ Z:ByteArray,Z=⟨q.toArray⟩:=⟨_,rfl⟩
         rw [← hQQ] at f8 hpq
         clear hQQ
         cases hqe:(p == q) with
         | true =>
           rw [hqe] at hpq
           have HZ:Hid (z=1):=by
            rw [Hid,HR2.out,HST.out,take_has (hq.trans (by rw [← beq_iff_eq.1 hqe])) hjl];simp
           clear hqe hq HR2 HST
           go_wp2
           go_quiet (fail)
           go_wp2
           go_ret
           exact ⟨Zf HZ.out.symm,Below.step hb.out (by first|exact below_drewN (below_drewN hV9.out _) _|exact below_drewN hV9.out _)⟩
         | false =>
           rw [hqe] at hpq
           have HNO:Hid (∀ j',j'<j+1→ifs[j']?≠some p):=fun j' h' e=>by
            by_cases e':j'=j
            ·subst e';rw [hq] at e;injection e with e;rw [e] at hqe;simp at hqe
            ·exact hno.out j' (by omega) e
           clear hqe hq
           go_wp2
           go_quiet (fail)
           go_wp2
           go_roundg (i - (j+1))
           case measure=>omega
           case rel=>exact ⟨j+1,by go_num,by omega,rfl,⟨_,rfl⟩,HNO⟩
        ·have e:j=i:=by omega
         subst e
         have HST2:Hid (ifsB nm.data.toList (ifs.take (j+1)) (ifs.drop (j+1))=ifsB nm.data.toList [] ifs):=by rw [Hid,HST.out,take_not hno.out];simp
         clear HST hno
         go_wp2
         go_roundg (K - (j+1))
         case measure=>omega
         case rel=>exact ⟨j+1,by go_num,by omega,rfl,hcb.out.keep (below_drewN hV9.out _),Below.step hb.out (below_drewN hV9.out _),HST2⟩
  ·have e:i=K:=by omega
   subst e
   obtain ⟨g0,d0,d1,d2,d3,d4,d5⟩:=hcb.out
   have HR3:Hid (z=if Yv (hasI fl 512) ms ms 0 then 0 else 1):=by
    rw [Hid,HR2.out,← hs.out,List.drop_of_length_le (by rw [HK.out];exact Nat.le_refl _)];simp [ifsB]
   clear HR2 hs d0 d1 d3 d4
   go_wp2
   clear d2 d5 g0
   go_loopg [5] M (fun g iv wi=>∃ k:Nat,iv=.int .i64 k∧k≤M∧g=M - k∧Hid (CB wi w.heap.size nm su (.slice ai i capi) fl ld (.slice am M capm))∧Hid (Bw w wi)∧Hid (Yv (hasI fl 512) ms (ms.drop k) k=Yv (hasI fl 512) ms ms 0))
   case atStart=>exact ⟨0,rfl,Nat.zero_le _,rfl,hcb,hb,rfl⟩
   case round =>
    obtain ⟨k,rfl,hk,rfl,hcb2,hb2,hs2⟩:=hrel
    obtain ⟨g0,d0,d1,d2,d3,d4,d5⟩:=hcb2.out
    by_cases hlt2:k<M
    ·obtain ⟨bk,o,hao,hbk,hc⟩:=HMA.out (by intro e;have:=HL.out;rw [e] at this;simp at this;omega)
     obtain ⟨x,hx⟩:∃ x,ms[k]?=some x:=⟨_,List.getElem?_eq_getElem (by rw [HL.out];exact hlt2)⟩
     subst hao
     have hst:=Zfm (hasI fl 512) ms k x hx
     rw [hs2.out] at hst
     obtain ⟨k1,k2,k3⟩:=HMO.out x (List.mem_of_getElem? hx)
     have hcx:=hc k x hx
     obtain ⟨xn,xd,xf,xl,xs,xc⟩:=x
     obtain ⟨p0,p1,p2,p3,p4,vc,p5,hI⟩:=hcx
     simp only at p0 p1 p2 p3 p4 p5 hI k1 k2 k3 hst
     have HI2:Hid (IsInss w vc xc):=hI
     obtain ⟨va,vcap,rfl,_,_,_⟩:=hI
     replace p0:=(hb2.out.cell hbk).trans p0
     replace p1:=(hb2.out.cell hbk).trans p1
     replace p2:=(hb2.out.cell hbk).trans p2
     replace p3:=(hb2.out.cell hbk).trans p3
     replace p4:=(hb2.out.cell hbk).trans p4
     replace p5:=(hb2.out.cell hbk).trans p5
     obtain ⟨σ,V,hne,V1,V2⟩:=Zfv (fun w'=>Below (wr.alloc (.cells #[.string xn,.string xd,.int .i64 xf,.int .i64 xl,.int .i64 xs,.slice va xc.length vcap] 48)).heap.size (wr.alloc (.cells #[.string xn,.string xd,.int .i64 xf,.int .i64 xl,.int .i64 xs,.slice va xc.length vcap] 48)) w') ⟨_,Below.refl _ _⟩
     have VB:Hid (∀ s,Bw w (V s)):=fun s=>Below.step (hb2.out.alloc hb2.out.size _) (V1.out s)
     have VC:Hid (∀ s,CB (V s) w.heap.size nm su (.slice ai i capi) fl ld (.slice (some ⟨bk,o,none⟩) M capm)):=fun s=>(hcb2.out.keep ((Below.refl _ _).alloc (Nat.le_refl _) _)).keep (V1.out s)
     have v0:∀ s,(V s).cell? ⟨w.heap.size,0,none⟩=some (.string nm):=fun s=>(VC.out s).2.1
     have v1:∀ s,(V s).cell? ⟨w.heap.size,1,none⟩=some (.string su):=fun s=>(VC.out s).2.2.1
     have v2:∀ s,(V s).cell? ⟨w.heap.size,2,none⟩=some (.slice ai i capi):=fun s=>(VC.out s).2.2.2.1
     have v3:∀ s,(V s).cell? ⟨w.heap.size,3,none⟩=some (.int .i64 fl):=fun s=>(VC.out s).2.2.2.2.1
     have v4:∀ s,(V s).cell? ⟨w.heap.size,4,none⟩=some (.int .i64 ld):=fun s=>(VC.out s).2.2.2.2.2.1
     have v5:∀ s,(V s).cell? ⟨w.heap.size,5,none⟩=some (.slice (some ⟨bk,o,none⟩) M capm):=fun s=>(VC.out s).2.2.2.2.2.2
     have u0:∀ s,(V s).cell? ⟨wr.heap.size,0,none⟩=some (.string xn):=fun s=>((V1.out s).cell (p:=⟨wr.heap.size,0,none⟩) (by simp)).trans (by simp [go_sem])
     have u1:∀ s,(V s).cell? ⟨wr.heap.size,1,none⟩=some (.string xd):=fun s=>((V1.out s).cell (p:=⟨wr.heap.size,1,none⟩) (by simp)).trans (by simp [go_sem])
     have u2:∀ s,(V s).cell? ⟨wr.heap.size,2,none⟩=some (.int .i64 xf):=fun s=>((V1.out s).cell (p:=⟨wr.heap.size,2,none⟩) (by simp)).trans (by simp [go_sem])
     have u3:∀ s,(V s).cell? ⟨wr.heap.size,3,none⟩=some (.int .i64 xl):=fun s=>((V1.out s).cell (p:=⟨wr.heap.size,3,none⟩) (by simp)).trans (by simp [go_sem])
     have u4:∀ s,(V s).cell? ⟨wr.heap.size,4,none⟩=some (.int .i64 xs):=fun s=>((V1.out s).cell (p:=⟨wr.heap.size,4,none⟩) (by simp)).trans (by simp [go_sem])
     have u5:∀ s,(V s).cell? ⟨wr.heap.size,5,none⟩=some (.slice va xc.length vcap):=fun s=>((V1.out s).cell (p:=⟨wr.heap.size,5,none⟩) (by simp)).trans (by simp [go_sem])
     have HHs:Hid (∀ s,Calls Tryz.prog 34 #[.int .i64 fl,.int .i64 512] (V s) fun e w''=>e=.returned (.bool (hasI fl 512))∧∃ s',w''=V s'):=fun s=>(Xg fl 512 (V s)).mono fun e w'' zz=>⟨zz.1,s,zz.2⟩
     generalize hasI fl 512=hh at *
     generalize hmb:mthB ⟨xn,xd,xf,xl,xs,xc⟩ hh=mb at *
     generalize hfi:Yl xn xd ms 0=fi at *
     have HMs:Hid (∀ s,Calls Tryz.prog 59 #[.agg #[.string xn,.string xd,.int .i64 xf,.int .i64 xl,.int .i64 xs,.slice va xc.length vcap],.bool hh] (V s) fun e w''=>e=.returned (.bool mb)∧∃ s',w''=V s'):=fun s=>(Zej xn xd xf xl xs _ xc hh k1 k2 (V s) (HI2.out.keep (VB.out s)) k3).mono fun e w'' zz=>⟨zz.1.trans (by rw [hmb]),V2.out _ (Below.step (V1.out s) zz.2)⟩
     have HFs:Hid (∀ s,Calls Tryz.prog 60 #[.agg #[.string nm,.string su,.slice ai i capi,.int .i64 fl,.int .i64 ld,.slice (some ⟨bk,o,none⟩) M capm],.string xn,.string xd] (V s) fun e w''=>e=.returned (.int .i64 fi)∧∃ s',w''=V s'):=fun s=>(Zh4 nm su _ fl ld _ ms xn xd (V s) (HM.out.keep (VB.out s))).mono fun e w'' zz=>⟨zz.1.trans (by rw [hfi]),V2.out _ (Below.step (V1.out s) zz.2)⟩
     clear hc k1 k2 k3 hmb hfi hx d0 d1 d2 d3 d4 hs2
     cases mb with
     | false =>
       have HZ:Hid (z=1):=by rw [Hid,HR3.out,hst];simp
       clear hst HR3
       go_wp2
       refine Zl (C:=fun w'=>∃ s,w'=V s) (by kernel_rfl) (by kernel_rfl) (V2.out _ ((Below.refl _ _).drew)) ?_
       repeat (go_big_quiet_step (first|(go_at_call 34;exact HHs.out _)|(go_at_call 59;exact HMs.out _)|(go_at_call 60;exact HFs.out _)))
       refine wpQuiet_nil ?_
       intro w9 hw9
       obtain ⟨s9,rfl⟩:=hw9
       have hV9:Hid (Bw w (V s9)):=VB.out s9
       have hC9:Hid (CB (V s9) w.heap.size nm su (.slice ai i capi) fl ld (.slice (some ⟨bk,o,none⟩) M capm)):=VC.out s9
       go_wp2
       go_ret
       exact ⟨Zf HZ.out.symm,hV9.out⟩
     | true =>
     cases hfk:(fi == (k:Int)) with
     | false =>
       have HZ:Hid (z=1):=by rw [Hid,HR3.out,hst,hfk];simp
       have hfn:(fi != (k:Int))=true:=by rw [bne,hfk];rfl
       clear hst HR3 hfk
       go_wp2
       refine Zl (C:=fun w'=>∃ s,w'=V s) (by kernel_rfl) (by kernel_rfl) (V2.out _ ((Below.refl _ _).drew)) ?_
       repeat (go_big_quiet_step (first|(go_at_call 34;exact HHs.out _)|(go_at_call 59;exact HMs.out _)|(go_at_call 60;exact HFs.out _)))
       refine wpQuiet_nil ?_
       intro w9 hw9
       obtain ⟨s9,rfl⟩:=hw9
       have hV9:Hid (Bw w (V s9)):=VB.out s9
       have hC9:Hid (CB (V s9) w.heap.size nm su (.slice ai i capi) fl ld (.slice (some ⟨bk,o,none⟩) M capm)):=VC.out s9
       go_wp2
       go_ret
       exact ⟨Zf HZ.out.symm,hV9.out⟩
     | true =>
       have HST:Hid (Yv hh ms (ms.drop (k+1)) (k+1)=Yv hh ms ms 0):=by rw [Hid,hst,hfk];simp
       have hfn:(fi != (k:Int))=false:=by rw [bne,hfk];rfl
       clear hst hfk
       go_wp2
       refine Zl (C:=fun w'=>∃ s,w'=V s) (by kernel_rfl) (by kernel_rfl) (V2.out _ ((Below.refl _ _).drew)) ?_
       repeat (go_big_quiet_step (first|(go_at_call 34;exact HHs.out _)|(go_at_call 59;exact HMs.out _)|(go_at_call 60;exact HFs.out _)))
       refine wpQuiet_nil ?_
       intro w9 hw9
       obtain ⟨s9,rfl⟩:=hw9
       have hV9:Hid (Bw w (V s9)):=VB.out s9
       have hC9:Hid (CB (V s9) w.heap.size nm su (.slice ai i capi) fl ld (.slice (some ⟨bk,o,none⟩) M capm)):=VC.out s9
       go_wp2
       go_roundg (M - (k+1))
       case measure=>omega
       case rel=>exact ⟨k+1,by go_num,by omega,rfl,hC9,hV9,HST⟩
    ·have e:k=M:=by omega
     subst e
     have HZ:Hid (z=0):=by
      rw [Hid,HR3.out,← hs2.out,List.drop_of_length_le (by rw [HL.out];exact Nat.le_refl _)];simp [Yv]
     clear HR3 hs2
     go_wp2
     go_ret
     exact ⟨Zf HZ.out.symm,hb2.out⟩
def Zho (a b:Mth):Bool:=(a.nm.toList == b.nm.toList)&&(a.ds.toList == b.ds.toList)&&(a.fl == b.fl)&&(a.lo == b.lo)&&(a.st == b.st)&&Xc a.code b.code
theorem Zai (a b:Mth) (va vb:Value) (w:World) (ha:IsInss w va a.code) (hb:IsInss w vb b.code) :
 Calls Tryz.prog 40 #[.agg #[.string a.nm,.string a.ds,.int .i64 a.fl,.int .i64 a.lo,.int .i64 a.st,va],.agg #[.string b.nm,.string b.ds,.int .i64 b.fl,.int .i64 b.lo,.int .i64 b.st,vb]] w fun e w'=>e=.returned (.bool (Zho a b))∧Bw w w':=by
 have HS:Hid (∀ w',IsInss w' va a.code→IsInss w' vb b.code→_):=fun w' h1 h2=>Zb6 va vb a.code b.code w' h1 h2
 have HR:Hid (Zho a b=((a.nm.toList == b.nm.toList)&&(a.ds.toList == b.ds.toList)&&(a.fl == b.fl)&&(a.lo == b.lo)&&(a.st == b.st)&&Xc a.code b.code)):=rfl
 have HA:Hid (IsInss w va a.code):=ha
 have HB:Hid (IsInss w vb b.code):=hb
 obtain ⟨aa,ca,rfl,_,_,_⟩:=ha
 obtain ⟨ab,cb,rfl,_,_,_⟩:=hb
 generalize Zho a b=z at *
 generalize Xc a.code b.code=q6 at *
 obtain ⟨an,ad,af,al,at1,ac⟩:=a
 obtain ⟨bn,bd,bf,bl,bs,bc⟩:=b
 simp only at HS HR HA HB ⊢
 generalize h1:(an.toList == bn.toList)=q1 at *
 generalize h2:(ad.toList == bd.toList)=q2 at *
 generalize h3:(af == bf)=q3 at *
 generalize h4:(al == bl)=q4 at *
 generalize h5:(at1 == bs)=q5 at *
 by_cases hall:(q1&&q2&&q3&&q4&&q5)=true
 ·simp only [Bool.and_eq_true] at hall
  obtain ⟨⟨⟨⟨rfl,rfl⟩,rfl⟩,rfl⟩,rfl⟩:=hall
  go_enter Tryz.func40,Tryz.ntmps40
  go_wp2_with (go_at_call 64;refine (HS.out _ (HA.out.keep (((Below.refl _ _).alloc (Nat.le_refl _) _).alloc (by simp) _)) (HB.out.keep (((Below.refl _ _).alloc (Nat.le_refl _) _).alloc (by simp) _))).mono ?_;rintro e w1 ⟨rfl,hb1⟩)
  go_ret
  exact ⟨Za (by rw [HR.out];simp),Below.step (((Below.refl _ _).alloc (Nat.le_refl _) _).alloc (by simp) _) hb1⟩
 ·have hz:Hid (z=false):=by rw [Hid,HR.out];cases q1 <;> cases q2 <;> cases q3 <;> cases q4 <;> cases q5 <;> simp_all
  clear HR HS HA HB
  cases q1
  all_goals (try cases q2)
  all_goals (try cases q3)
  all_goals (try cases q4)
  all_goals (try cases q5)
  all_goals first
   | exact absurd rfl hall
   | (clear hall;go_enter Tryz.func40,Tryz.ntmps40;go_wp2;go_ret;exact ⟨Za hz.out.symm,((Below.refl _ _).alloc (Nat.le_refl _) _).alloc (by simp) _⟩)
theorem Za7 (n a b:Int) (w:World):Calls Tryz.prog 51 #[.int .i64 n,.int .i64 a,.int .i64 b] w fun e w'=>e=.returned (.bool (decide (a≤n)&&decide (n≤b)))∧w'=w:=by
 go_enter Tryz.func51,Tryz.ntmps51
 by_cases h1:a≤n
 ·by_cases h2:n≤b
  ·go_wp2
   go_ret
   exact ⟨Za (by simp [h1,h2]),rfl⟩
  ·go_wp2
   go_ret
   exact ⟨Za (by simp;omega),rfl⟩
 ·go_wp2
  go_ret
  exact ⟨Za (by simp;omega),rfl⟩
theorem isM_any (xn xd nm ds:ByteArray) (xf xl xs:Int) (vc:Value) (b1 b2:Nat) (w:World) (g1:w.cell? ⟨b1,0,none⟩=some (.string nm)) (g2:w.cell? ⟨b2,0,none⟩=some (.string ds)) (l1:b1<w.heap.size) (l2:b2<w.heap.size) :
 Calls Tryz.prog 97 #[.agg #[.string xn,.string xd,.int .i64 xf,.int .i64 xl,.int .i64 xs,vc],.pointer (some ⟨b1,0,none⟩),.pointer (some ⟨b2,0,none⟩)] w fun e w'=>e=.returned (.bool ((xn.toList == nm.toList)&&(xd.toList == ds.toList)))∧Bw w w':=by
 generalize hz:((xn.toList == nm.toList)&&(xd.toList == ds.toList))=z
 have HZ:Hid _:=hz
 clear hz
 cases q1:(xn.toList == nm.toList) with
 | false =>
   go_enter Tryz.func97,Tryz.ntmps97
   go_wp2
   go_ret
   exact ⟨Za (by rw [← HZ.out,q1];rfl),(Below.refl _ _).alloc (Nat.le_refl _) _⟩
 | true =>
   cases q2:(xd.toList == ds.toList) with
   | false =>
     go_enter Tryz.func97,Tryz.ntmps97
     go_wp2
     go_ret
     exact ⟨Za (by rw [← HZ.out,q1,q2];rfl),(Below.refl _ _).alloc (Nat.le_refl _) _⟩
   | true =>
     go_enter Tryz.func97,Tryz.ntmps97
     go_wp2
     go_ret
     exact ⟨Za (by rw [← HZ.out,q1,q2];rfl),(Below.refl _ _).alloc (Nat.le_refl _) _⟩
theorem idxM_any (nm ds:ByteArray) (vm:Value) (ms:List Mth) (W:World) (b1 b2:Nat) (h:IsMths W vm ms) (g1:W.cell? ⟨b1,0,none⟩=some (.string nm)) (g2:W.cell? ⟨b2,0,none⟩=some (.string ds)) (l1:b1<W.heap.size) (l2:b2<W.heap.size) :
 Calls Tryz.prog 96 #[vm,.func (.func 97) #[] #[.pointer (some ⟨b1,0,none⟩),.pointer (some ⟨b2,0,none⟩)]] W fun e w'=>e=.returned (.int .i64 (Yl nm ds ms 0))∧Bw W w':=by
 obtain ⟨ao,cap,rfl,h1,h2,h3⟩:=h
 obtain ⟨N,hN⟩:∃ N,ms.length=N:=⟨_,rfl⟩
 unfold maxLen at h2
 rw [hN] at h1 ⊢
 have HN1:Hid (ms.length=N):=hN
 have HA:Hid _:=h3
 have G1:Hid _:=g1
 have G2:Hid _:=g2
 clear hN h3 g1 g2
 go_enter Tryz.func96,Tryz.ntmps96
 go_wp2
 go_loopw [8] (fun iv wr=>∃ i:Nat,iv=.int .i64 i∧i≤N∧Hid (Bw W wr)∧Hid (Yl nm ds (ms.drop i) i=Yl nm ds ms 0)) (fun iv _=>N - (intOf iv).toNat)
 case atStart=>exact ⟨0,rfl,Nat.zero_le _,Below.refl _ _,rfl⟩
 case round =>
  obtain ⟨i,rfl,hi,hb,hs⟩:=hrel
  by_cases hlt:i<N
  ·obtain ⟨bk,o,hao,hbk,hc⟩:=HA.out (by intro e;have:=HN1.out;rw [e] at this;simp at this;omega)
   obtain ⟨x,hx⟩:∃ x,ms[i]?=some x:=⟨_,List.getElem?_eq_getElem (by rw [HN1.out];exact hlt)⟩
   subst hao
   have hst:=Zft (nm:=nm) (ds:=ds) i x hx
   rw [hs.out] at hst
   have hcx:=(hc i x hx).keep hb.out hbk
   obtain ⟨xn,xd,xf,xl,xs,xc⟩:=x
   obtain ⟨p0,p1,p2,p3,p4,vc,p5,hI⟩:=hcx
   obtain ⟨va,vcap,rfl,_,_,_⟩:=hI
   simp only at p0 p1 p2 p3 p4 p5 hst
   have k1:=(hb.out.cell l1).trans G1.out
   have k2:=(hb.out.cell l2).trans G2.out
   have HC:Hid (Calls Tryz.prog 97 #[.agg #[.string xn,.string xd,.int .i64 xf,.int .i64 xl,.int .i64 xs,.slice va xc.length vcap],.pointer (some ⟨b1,0,none⟩),.pointer (some ⟨b2,0,none⟩)] wr fun e w'=>e=.returned (.bool ((xn.toList == nm.toList)&&(xd.toList == ds.toList)))∧Bw wr w'):=isM_any xn xd nm ds xf xl xs (.slice va xc.length vcap) b1 b2 wr k1 k2 (Nat.lt_of_lt_of_le l1 hb.out.size) (Nat.lt_of_lt_of_le l2 hb.out.size)
   generalize ((xn.toList == nm.toList)&&(xd.toList == ds.toList))=q at *
   clear hc hs HA hx k1 k2
   cases q with
   | true =>
     have HZ:Hid (Yl nm ds ms 0=(i:Int)):=by rw [Hid,hst];rfl
     clear hst
     go_wp2_with (go_at_call 97;refine (HC.out).mono ?_;rintro e w1 ⟨rfl,hb1⟩)
     go_ret
     exact ⟨Zf HZ.out.symm,Below.step hb.out hb1⟩
   | false =>
     have HZ:Hid (Yl nm ds (ms.drop (i+1)) (i+1)=Yl nm ds ms 0):=by rw [Hid,hst];rfl
     clear hst
     go_wp2_with (go_at_call 97;refine (HC.out).mono ?_;rintro e w1 ⟨rfl,hb1⟩;have hb2:Hid (Bw W w1):=Below.step hb.out hb1;clear hb1)
     go_roundw
     case rel=>exact ⟨i+1,by go_num,by omega,hb2,HZ⟩
     case measure=>simp [intOf];omega
  ·have e:i=N:=by omega
   subst e
   have HZ:Hid (Yl nm ds ms 0=-1):=by rw [Hid,← hs.out,List.drop_of_length_le (by rw [HN1.out];exact Nat.le_refl _)];rfl
   clear hs HA
   go_wp2
   go_ret
   exact ⟨Zf HZ.out.symm,hb.out⟩
theorem find_any (cn cs:ByteArray) (vi:Value) (cf cl:Int) (vm:Value) (ms:List Mth) (nm ds:ByteArray) (W:World) (h:IsMths W vm ms) :
 Calls Tryz.prog 75 #[.agg #[.string cn,.string cs,vi,.int .i64 cf,.int .i64 cl,vm],.string nm,.string ds] W fun e w'=>e=.returned (.int .i64 (Yl nm ds ms 0))∧Bw W w':=by
 have H:Hid (IsMths W vm ms):=h
 have hB:Hid (∀ o1 o2 o3,Bw W (((W.alloc o1).alloc o2).alloc o3)):=fun o1 o2 o3=>(((Below.refl _ _).alloc (Nat.le_refl _) _).alloc (by simp) _).alloc (by simp;omega) _
 obtain ⟨ao,cap,rfl,_,_,_⟩:=h
 go_enter Tryz.func75,Tryz.ntmps75
 go_wp2_with (go_at_call 96;(refine (idxM_any nm ds _ ms _ (W.heap.size+1) (W.heap.size+1+1) ?_ ?_ ?_ ?_ ?_).mono ?_;exact H.out.keep (hB.out _ _ _);simp [go_sem];simp [go_sem];simp [go_sem];simp [go_sem];rintro e w1 ⟨rfl,hb1⟩))
 go_ret
 exact ⟨rfl,Below.step (hB.out _ _ _) hb1⟩
theorem same_all (v1 v2:Value) (ps qs:List (List UInt8)) (w:World) (h1:IsStrs w v1 ps) (h2:IsStrs w v2 qs) :
 Calls Tryz.prog 39 #[v1,v2] w fun e w'=>e=.returned (.bool (decide (ps=qs)))∧Bw w w':=by
 by_cases n1:ps=[]
 ·by_cases n2:qs=[]
  ·subst n1 n2
   obtain ⟨a1,c1,rfl,_,_,_⟩:=h1
   obtain ⟨a2,c2,rfl,_,_,_⟩:=h2
   simp only [List.length_nil]
   go_enter Tryz.func39,Tryz.ntmps39
   go_wp2
   go_loopw [5] (fun iv wr=>iv=.int .i64 0∧wr=w) (fun _ _=>0)
   case atStart=>exact ⟨rfl,rfl⟩
   case round =>
    obtain ⟨rfl,rfl⟩:=hrel
    go_wp2
    go_ret
    exact ⟨Za (by simp),Below.refl _ _⟩
  ·subst n1
   obtain ⟨a1,c1,rfl,_,_,_⟩:=h1
   obtain ⟨a2,c2,rfl,_,_,_⟩:=h2
   simp only [List.length_nil]
   have hl:0<qs.length:=List.length_pos_iff.2 n2
   have hne:(((0:Nat):Int) != (qs.length:Int))=true:=by rw [bne_iff_ne];omega
   have hd:decide (([]:List (List UInt8))=qs)=false:=by rw [decide_eq_false_iff_not];exact fun e=>n2 e.symm
   rw [hd]
   generalize qs.length=K at *
   go_enter Tryz.func39,Tryz.ntmps39
   go_wp2
   go_ret
   exact ⟨rfl,Below.refl _ _⟩
 ·by_cases n2:qs=[]
  ·subst n2
   obtain ⟨a1,c1,rfl,_,_,_⟩:=h1
   obtain ⟨a2,c2,rfl,_,_,_⟩:=h2
   simp only [List.length_nil]
   have hl:0<ps.length:=List.length_pos_iff.2 n1
   have hne:((ps.length:Int) != ((0:Nat):Int))=true:=by rw [bne_iff_ne];omega
   have hd:decide (ps=([]:List (List UInt8)))=false:=by rw [decide_eq_false_iff_not];exact n1
   rw [hd]
   generalize ps.length=K at *
   go_enter Tryz.func39,Tryz.ntmps39
   go_wp2
   go_ret
   exact ⟨rfl,Below.refl _ _⟩
  ·exact (same_any v1 v2 ps qs w h1 h2 n1 n2).mono fun e w' ⟨he,n,hw⟩=>⟨he,by rw [hw];exact below_drewN (Below.refl _ _) n⟩
end Go.Proofs.YtkoogmegdfpopaaGreat
