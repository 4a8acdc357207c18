import Derived.Test.YtfbhjfpkhofifaaGreatDoorShpC
set_option maxHeartbeats 16000000
set_option maxRecDepth 100000
namespace Go.Proofs.YtfbhjfpkhofifaaGreatDoor
open Go.RowKit
def ifsB (nm:List UInt8):List (List UInt8)→List (List UInt8)→Bool
 | _,[]=>true
 | pre,p::r=>Zl p&&!(p == nm)&&!(pre.contains p)&&ifsB nm (pre++[p]) r
theorem Zoh (nm:List UInt8) {l:List (List UInt8)} (k:Nat) (p:List UInt8) (h:l[k]?=some p):ifsB nm (l.take k) (l.drop k)=(Zl p&&!(p == nm)&&!((l.take k).contains p)&&ifsB nm (l.take (k+1)) (l.drop (k+1))):=by
 obtain ⟨h1,h2⟩:=List.getElem?_eq_some_iff.1 h;rw [List.drop_eq_getElem_cons h1,h2,ifsB,List.take_add_one,h];rfl
theorem take_has {l:List (List UInt8)} {i j:Nat} {p:List UInt8} (h:l[j]?=some p) (hj:j<i):(l.take i).contains p=true:=by
 rw [List.contains_iff_mem];exact List.mem_of_getElem? (i:=j) (by rw [List.getElem?_take_of_lt hj];exact h)
theorem take_not {l:List (List UInt8)} {i:Nat} {p:List UInt8} (h:∀ j,j<i→l[j]?≠some p):(l.take i).contains p=false:=by
 rw [Bool.eq_false_iff];intro hc;rw [List.contains_iff_mem] at hc;obtain ⟨j,hj⟩:=List.mem_iff_getElem?.1 hc;rw [List.getElem?_take] at hj
 split at hj
 ·exact h j (by assumption) hj
 ·cases hj
theorem below_drewN {B:Nat} {a w:World} (h:Below B a w) (n:Nat):Below B a (w.drewN n):=⟨h.os,h.tape,h.output,h.size,h.block⟩
theorem Zlf (C:World→Prop) (h:∃ w,C w):∃ (σ:Type) (V:σ→World),Nonempty σ∧Hid (∀ s,C (V s))∧Hid (∀ w,C w→∃ s,w=V s) :=
 ⟨{w // C w},Subtype.val,h.elim fun w hw=>⟨⟨w,hw⟩⟩,fun s=>s.2,fun w hw=>⟨⟨w,hw⟩,rfl⟩⟩
def CB (w:World) (b:Nat) (nm su:ByteArray) (vi:Value) (fl ld:Int) (vm:Value):Prop :=
 b<w.heap.size∧w.cell? ⟨b,0,none⟩=some (.string nm)∧w.cell? ⟨b,1,none⟩=some (.string su)∧w.cell? ⟨b,2,none⟩=some vi∧w.cell? ⟨b,3,none⟩=some (.int .i64 fl)∧w.cell? ⟨b,4,none⟩=some (.int .i64 ld)∧w.cell? ⟨b,5,none⟩=some vm
theorem CB.keep {w w':World} {b:Nat} {nm su:ByteArray} {vi:Value} {fl ld:Int} {vm:Value} (h:CB w b nm su vi fl ld vm) (hb:Bw w w'):CB w' b nm su vi fl ld vm:=by
 obtain ⟨h,h0,h1,h2,h3,h4,h5⟩:=h;exact ⟨Nat.lt_of_lt_of_le h hb.size,(hb.cell h).trans h0,(hb.cell h).trans h1,(hb.cell h).trans h2,(hb.cell h).trans h3,(hb.cell h).trans h4,(hb.cell h).trans h5⟩
def Qf (iface:Bool) (all:List Mth):List Mth→Nat→Bool
 | [],_=>true
 | m::r,k=>mthB m iface&&(Xz m.nm m.ds all 0 == (k:Int))&&Qf iface all r (k+1)
theorem Zky (iface:Bool) (all:List Mth) {l:List Mth} (k:Nat) (x:Mth) (h:l[k]?=some x):Qf iface all (l.drop k) k=(mthB x iface&&(Xz x.nm x.ds all 0 == (k:Int))&&Qf iface all (l.drop (k+1)) (k+1)):=by
 obtain ⟨h1,h2⟩:=List.getElem?_eq_some_iff.1 h;rw [List.drop_eq_getElem_cons h1,h2,Qf]
def clsB (c:Cls):Bool :=
 Zl c.nm.data.toList&&Zl c.su.data.toList&&!(c.nm.toList == c.su.toList)&&!decide (20<(c.ifs.length:Int))&&!decide (40<(c.ms.length:Int))&&!decide (c.ld<0)&&!decide (9<c.ld)&&(chkC c.fl == 0) &&
  ifsB c.nm.data.toList [] c.ifs&&Qf (hasI c.fl 512) c.ms c.ms 0
def clsE (c:Cls):Int:=if clsB c then 0 else 1
def MthOK (m:Mth):Prop:=m.nm.size≤maxLen∧m.ds.size≤maxLen∧∀ i∈m.code,Zib i
theorem Ziy (c:Cls) (vi vm:Value) (w:World) (hi:IsStrs w vi c.ifs) (hm:IsMths w vm c.ms) (hn:c.nm.size≤maxLen) (hsu:c.su.size≤maxLen) (hif:∀ p∈c.ifs,p.length≤maxLen) (hmo:∀ m∈c.ms,MthOK m) :
 Calls Tryz.prog 9 #[clsV c vi vm] w fun e w'=>e=.returned (.int .i64 (clsE c))∧Bw w w':=by
 obtain ⟨nm,su,ifs,fl,ld,ms⟩:=c;simp only at hi hm hn hsu hif hmo;have HV1:Hid (∀ w,_):=Qb nm hn;have HV2:Hid (∀ w,_):=Qb su hsu;have HCC:Hid (∀ w,_):=Zdg fl;have HI:Hid (IsStrs w vi ifs):=hi;have HM:Hid (IsMths w vm ms):=hm;have HIF:Hid _:=hif;have HMO:Hid _:=hmo
 have HR:Hid (clsE ⟨nm,su,ifs,fl,ld,ms⟩=if (Zl nm.data.toList&&Zl su.data.toList&&!(nm.toList == su.toList)&&!decide (20<(ifs.length:Int))&&!decide (40<(ms.length:Int))&&!decide (ld<0)&&!decide (9<ld)&&(chkC fl == 0) &&
  ifsB nm.data.toList [] ifs&&Qf (hasI fl 512) ms ms 0) then 0 else 1):=rfl
 obtain ⟨ai,capi,rfl,i1,i2,i3⟩:=hi;obtain ⟨am,capm,rfl,m1,m2,m3⟩:=hm;have HIA:Hid _:=i3;have HMA:Hid _:=m3;clear i3 m3;unfold maxLen at i2 m2;unfold clsV;simp only;obtain ⟨K,hK⟩:∃ K,ifs.length=K:=⟨_,rfl⟩;obtain ⟨M,hM⟩:∃ M,ms.length=M:=⟨_,rfl⟩;rw [hK] at i1 HI HR ⊢;rw [hM] at m1 HM HR ⊢;have HK:Hid (ifs.length=K):=hK;have HL:Hid (ms.length=M):=hM;clear hn hsu hif hmo hK hM;generalize clsE ⟨nm,su,ifs,fl,ld,ms⟩=z at *;generalize Zl nm.data.toList=q1 at *;generalize Zl su.data.toList=q2 at *;generalize q3:(nm.toList == su.toList)=d3 at *;generalize chkC fl=ck at *
 cases q1 with
 | false =>
   go_enter Tryz.func9,Tryz.ntmps9;go_wp2_with (first
    | (go_at_call 26;refine ((HV1.out) _).mono ?_;rintro e w1 ⟨rfl,hb1⟩;have hs1:w.heap.size<w1.heap.size:=sqS hb1;obtain ⟨a0,a1,a2,a3,a4,a5⟩:=sqX hb1 w.heap.size (.string nm) (.string su) (.slice ai K capi) (.int .i64 fl) (.int .i64 ld) (.slice am M capm);have B1:Hid (Bw w w1):=sqT hb1;clear hb1 HV1))
   go_ret
   exact ⟨Zg (by rw [HR.out];simp [*]),B1.out⟩
 | true =>
 cases q2 with
 | false =>
   go_enter Tryz.func9,Tryz.ntmps9;go_wp2_with (first
    | (go_at_call 26;refine ((HV1.out) _).mono ?_;rintro e w1 ⟨rfl,hb1⟩;have hs1:w.heap.size<w1.heap.size:=sqS hb1;obtain ⟨a0,a1,a2,a3,a4,a5⟩:=sqX hb1 w.heap.size (.string nm) (.string su) (.slice ai K capi) (.int .i64 fl) (.int .i64 ld) (.slice am M capm);have B1:Hid (Bw w w1):=sqT hb1;clear hb1 HV1)
    | (go_at_call 26;refine ((HV2.out) _).mono ?_;rintro e w2 ⟨rfl,hb2⟩;have hs2:w.heap.size<w2.heap.size:=(by have:=hb2.size;omega);have b0:=sqB hb2 w.heap.size 0 (.string nm) hs1;have b1:=sqB hb2 w.heap.size 1 (.string su) hs1;have b2:=sqB hb2 w.heap.size 2 (.slice ai K capi) hs1;have b3:=sqB hb2 w.heap.size 3 (.int .i64 fl) hs1;have b4:=sqB hb2 w.heap.size 4 (.int .i64 ld) hs1;have b5:=sqB hb2 w.heap.size 5 (.slice am M capm) hs1;clear a0 a1 a2 a3 a4 a5;have B2:Hid (Bw w w2):=Below.step B1.out hb2;clear hb2 HV2))
   go_ret
   exact ⟨Zg (by rw [HR.out];simp [*]),B2.out⟩
 | true =>
 cases d3 with
 | true =>
   go_enter Tryz.func9,Tryz.ntmps9;go_wp2_with (first
    | (go_at_call 26;refine ((HV1.out) _).mono ?_;rintro e w1 ⟨rfl,hb1⟩;have hs1:w.heap.size<w1.heap.size:=sqS hb1;obtain ⟨a0,a1,a2,a3,a4,a5⟩:=sqX hb1 w.heap.size (.string nm) (.string su) (.slice ai K capi) (.int .i64 fl) (.int .i64 ld) (.slice am M capm);have B1:Hid (Bw w w1):=sqT hb1;clear hb1 HV1)
    | (go_at_call 26;refine ((HV2.out) _).mono ?_;rintro e w2 ⟨rfl,hb2⟩;have hs2:w.heap.size<w2.heap.size:=(by have:=hb2.size;omega);have b0:=sqB hb2 w.heap.size 0 (.string nm) hs1;have b1:=sqB hb2 w.heap.size 1 (.string su) hs1;have b2:=sqB hb2 w.heap.size 2 (.slice ai K capi) hs1;have b3:=sqB hb2 w.heap.size 3 (.int .i64 fl) hs1;have b4:=sqB hb2 w.heap.size 4 (.int .i64 ld) hs1;have b5:=sqB hb2 w.heap.size 5 (.slice am M capm) hs1;clear a0 a1 a2 a3 a4 a5;have B2:Hid (Bw w w2):=Below.step B1.out hb2;clear hb2 HV2))
   go_ret
   exact ⟨Zg (by rw [HR.out];simp [*]),B2.out⟩
 | false =>
 by_cases r1:20<(K:Int)
 ·go_enter Tryz.func9,Tryz.ntmps9;go_wp2_with (first
   | (go_at_call 26;refine ((HV1.out) _).mono ?_;rintro e w1 ⟨rfl,hb1⟩;have hs1:w.heap.size<w1.heap.size:=sqS hb1;obtain ⟨a0,a1,a2,a3,a4,a5⟩:=sqX hb1 w.heap.size (.string nm) (.string su) (.slice ai K capi) (.int .i64 fl) (.int .i64 ld) (.slice am M capm);have B1:Hid (Bw w w1):=sqT hb1;clear hb1 HV1)
   | (go_at_call 26;refine ((HV2.out) _).mono ?_;rintro e w2 ⟨rfl,hb2⟩;have hs2:w.heap.size<w2.heap.size:=(by have:=hb2.size;omega);have b0:=sqB hb2 w.heap.size 0 (.string nm) hs1;have b1:=sqB hb2 w.heap.size 1 (.string su) hs1;have b2:=sqB hb2 w.heap.size 2 (.slice ai K capi) hs1;have b3:=sqB hb2 w.heap.size 3 (.int .i64 fl) hs1;have b4:=sqB hb2 w.heap.size 4 (.int .i64 ld) hs1;have b5:=sqB hb2 w.heap.size 5 (.slice am M capm) hs1;clear a0 a1 a2 a3 a4 a5;have B2:Hid (Bw w w2):=Below.step B1.out hb2;clear hb2 HV2))
  go_ret
  exact ⟨Zg (by rw [HR.out];simp [*]),B2.out⟩
 by_cases r2:40<(M:Int)
 ·go_enter Tryz.func9,Tryz.ntmps9;go_wp2_with (first
   | (go_at_call 26;refine ((HV1.out) _).mono ?_;rintro e w1 ⟨rfl,hb1⟩;have hs1:w.heap.size<w1.heap.size:=sqS hb1;obtain ⟨a0,a1,a2,a3,a4,a5⟩:=sqX hb1 w.heap.size (.string nm) (.string su) (.slice ai K capi) (.int .i64 fl) (.int .i64 ld) (.slice am M capm);have B1:Hid (Bw w w1):=sqT hb1;clear hb1 HV1)
   | (go_at_call 26;refine ((HV2.out) _).mono ?_;rintro e w2 ⟨rfl,hb2⟩;have hs2:w.heap.size<w2.heap.size:=(by have:=hb2.size;omega);have b0:=sqB hb2 w.heap.size 0 (.string nm) hs1;have b1:=sqB hb2 w.heap.size 1 (.string su) hs1;have b2:=sqB hb2 w.heap.size 2 (.slice ai K capi) hs1;have b3:=sqB hb2 w.heap.size 3 (.int .i64 fl) hs1;have b4:=sqB hb2 w.heap.size 4 (.int .i64 ld) hs1;have b5:=sqB hb2 w.heap.size 5 (.slice am M capm) hs1;clear a0 a1 a2 a3 a4 a5;have B2:Hid (Bw w w2):=Below.step B1.out hb2;clear hb2 HV2))
  go_ret
  exact ⟨Zg (by rw [HR.out];simp [*]),B2.out⟩
 by_cases r3:ld<0
 ·go_enter Tryz.func9,Tryz.ntmps9;go_wp2_with (first
   | (go_at_call 26;refine ((HV1.out) _).mono ?_;rintro e w1 ⟨rfl,hb1⟩;have hs1:w.heap.size<w1.heap.size:=sqS hb1;obtain ⟨a0,a1,a2,a3,a4,a5⟩:=sqX hb1 w.heap.size (.string nm) (.string su) (.slice ai K capi) (.int .i64 fl) (.int .i64 ld) (.slice am M capm);have B1:Hid (Bw w w1):=sqT hb1;clear hb1 HV1)
   | (go_at_call 26;refine ((HV2.out) _).mono ?_;rintro e w2 ⟨rfl,hb2⟩;have hs2:w.heap.size<w2.heap.size:=(by have:=hb2.size;omega);have b0:=sqB hb2 w.heap.size 0 (.string nm) hs1;have b1:=sqB hb2 w.heap.size 1 (.string su) hs1;have b2:=sqB hb2 w.heap.size 2 (.slice ai K capi) hs1;have b3:=sqB hb2 w.heap.size 3 (.int .i64 fl) hs1;have b4:=sqB hb2 w.heap.size 4 (.int .i64 ld) hs1;have b5:=sqB hb2 w.heap.size 5 (.slice am M capm) hs1;clear a0 a1 a2 a3 a4 a5;have B2:Hid (Bw w w2):=Below.step B1.out hb2;clear hb2 HV2))
  go_ret
  exact ⟨Zg (by rw [HR.out];simp [*]),B2.out⟩
 by_cases r4:9<ld
 ·go_enter Tryz.func9,Tryz.ntmps9;go_wp2_with (first
   | (go_at_call 26;refine ((HV1.out) _).mono ?_;rintro e w1 ⟨rfl,hb1⟩;have hs1:w.heap.size<w1.heap.size:=sqS hb1;obtain ⟨a0,a1,a2,a3,a4,a5⟩:=sqX hb1 w.heap.size (.string nm) (.string su) (.slice ai K capi) (.int .i64 fl) (.int .i64 ld) (.slice am M capm);have B1:Hid (Bw w w1):=sqT hb1;clear hb1 HV1)
   | (go_at_call 26;refine ((HV2.out) _).mono ?_;rintro e w2 ⟨rfl,hb2⟩;have hs2:w.heap.size<w2.heap.size:=(by have:=hb2.size;omega);have b0:=sqB hb2 w.heap.size 0 (.string nm) hs1;have b1:=sqB hb2 w.heap.size 1 (.string su) hs1;have b2:=sqB hb2 w.heap.size 2 (.slice ai K capi) hs1;have b3:=sqB hb2 w.heap.size 3 (.int .i64 fl) hs1;have b4:=sqB hb2 w.heap.size 4 (.int .i64 ld) hs1;have b5:=sqB hb2 w.heap.size 5 (.slice am M capm) hs1;clear a0 a1 a2 a3 a4 a5;have B2:Hid (Bw w w2):=Below.step B1.out hb2;clear hb2 HV2))
  go_ret
  exact ⟨Zg (by rw [HR.out];simp [*]),B2.out⟩
 by_cases hck:¬ ck=0
 ·have hne:(ck != 0)=true:=by rw [bne_iff_ne];exact hck
  have hne2:(ck == 0)=false:=by rw [beq_eq_false_iff_ne];exact hck
  go_enter Tryz.func9,Tryz.ntmps9;go_wp2_with (first
   | (go_at_call 26;refine ((HV1.out) _).mono ?_;rintro e w1 ⟨rfl,hb1⟩;have hs1:w.heap.size<w1.heap.size:=sqS hb1;obtain ⟨a0,a1,a2,a3,a4,a5⟩:=sqX hb1 w.heap.size (.string nm) (.string su) (.slice ai K capi) (.int .i64 fl) (.int .i64 ld) (.slice am M capm);have B1:Hid (Bw w w1):=sqT hb1;clear hb1 HV1)
   | (go_at_call 26;refine ((HV2.out) _).mono ?_;rintro e w2 ⟨rfl,hb2⟩;have hs2:w.heap.size<w2.heap.size:=(by have:=hb2.size;omega);have b0:=sqB hb2 w.heap.size 0 (.string nm) hs1;have b1:=sqB hb2 w.heap.size 1 (.string su) hs1;have b2:=sqB hb2 w.heap.size 2 (.slice ai K capi) hs1;have b3:=sqB hb2 w.heap.size 3 (.int .i64 fl) hs1;have b4:=sqB hb2 w.heap.size 4 (.int .i64 ld) hs1;have b5:=sqB hb2 w.heap.size 5 (.slice am M capm) hs1;clear a0 a1 a2 a3 a4 a5;have B2:Hid (Bw w w2):=Below.step B1.out hb2;clear hb2 HV2)
   | (go_at_call 27;refine ((HCC.out) _).mono ?_;rintro e w3 ⟨rfl,hb3⟩;have hs3:w.heap.size<w3.heap.size:=(by have:=hb3.size;omega);have c0:=sqB hb3 w.heap.size 0 (.string nm) hs2;have c1:=sqB hb3 w.heap.size 1 (.string su) hs2;have c2:=sqB hb3 w.heap.size 2 (.slice ai K capi) hs2;have c3:=sqB hb3 w.heap.size 3 (.int .i64 fl) hs2;have c4:=sqB hb3 w.heap.size 4 (.int .i64 ld) hs2;have c5:=sqB hb3 w.heap.size 5 (.slice am M capm) hs2;clear b0 b1 b2 b3 b4 b5;have B3:Hid (Bw w w3):=Below.step B2.out hb3;clear hb3 HCC))
  go_ret
  exact ⟨Zg (by rw [HR.out];simp [*]),B3.out⟩
 have hck2:ck=0:=by omega
 clear hck;subst hck2;have HR2:Hid (z=if (ifsB nm.data.toList [] ifs&&Qf (hasI fl 512) ms ms 0) then 0 else 1):=by rw [Hid,HR.out];simp [*]
 clear HR;go_enter Tryz.func9,Tryz.ntmps9;go_wp2_with (first
  | (go_at_call 26;refine ((HV1.out) _).mono ?_;rintro e w1 ⟨rfl,hb1⟩;have hs1:w.heap.size<w1.heap.size:=sqS hb1;obtain ⟨a0,a1,a2,a3,a4,a5⟩:=sqX hb1 w.heap.size (.string nm) (.string su) (.slice ai K capi) (.int .i64 fl) (.int .i64 ld) (.slice am M capm);have B1:Hid (Bw w w1):=sqT hb1;clear hb1 HV1)
  | (go_at_call 26;refine ((HV2.out) _).mono ?_;rintro e w2 ⟨rfl,hb2⟩;have hs2:w.heap.size<w2.heap.size:=(by have:=hb2.size;omega);have b0:=sqB hb2 w.heap.size 0 (.string nm) hs1;have b1:=sqB hb2 w.heap.size 1 (.string su) hs1;have b2:=sqB hb2 w.heap.size 2 (.slice ai K capi) hs1;have b3:=sqB hb2 w.heap.size 3 (.int .i64 fl) hs1;have b4:=sqB hb2 w.heap.size 4 (.int .i64 ld) hs1;have b5:=sqB hb2 w.heap.size 5 (.slice am M capm) hs1;clear a0 a1 a2 a3 a4 a5;have B2:Hid (Bw w w2):=Below.step B1.out hb2;clear hb2 HV2)
  | (go_at_call 27;refine ((HCC.out) _).mono ?_;rintro e w3 ⟨rfl,hb3⟩;have hs3:w.heap.size<w3.heap.size:=(by have:=hb3.size;omega);have c0:=sqB hb3 w.heap.size 0 (.string nm) hs2;have c1:=sqB hb3 w.heap.size 1 (.string su) hs2;have c2:=sqB hb3 w.heap.size 2 (.slice ai K capi) hs2;have c3:=sqB hb3 w.heap.size 3 (.int .i64 fl) hs2;have c4:=sqB hb3 w.heap.size 4 (.int .i64 ld) hs2;have c5:=sqB hb3 w.heap.size 5 (.slice am M capm) hs2;clear b0 b1 b2 b3 b4 b5;have B3:Hid (Bw w w3):=Below.step B2.out hb3;clear hb3 HCC))
 have HC3:Hid (CB w3 w.heap.size nm su (.slice ai K capi) fl ld (.slice am M capm)):=⟨hs3,c0,c1,c2,c3,c4,c5⟩;clear c0 c1 c2 c3 c4 c5 B1 B2 hs1 hs2 hs3 r1 r2 r3 r4
 go_loopg [3] K (fun g iv wr=>∃ i:Nat,iv=.int .i64 i∧i≤K∧g=K - i∧Hid (CB wr w.heap.size nm su (.slice ai K capi) fl ld (.slice am M capm))∧Hid (Bw w wr)∧Hid (ifsB nm.data.toList (ifs.take i) (ifs.drop i)=ifsB nm.data.toList [] ifs))
 case atStart=>exact ⟨0,rfl,Nat.zero_le _,rfl,HC3,B3,rfl⟩
 case round =>
  obtain ⟨i,rfl,hi,rfl,hcb,hb,hs⟩:=hrel;clear HC3 B3;by_cases hlt:i<K
  ·obtain ⟨bk,o,hao,hbk,hc⟩:=HIA.out (by intro e;have:=HK.out;rw [e] at this;simp at this;omega);obtain ⟨p,hp⟩:∃ p,ifs[i]?=some p:=⟨_,List.getElem?_eq_getElem (by rw [HK.out];exact hlt)⟩;subst hao;have hst:=Zoh nm.data.toList i p hp;rw [hs.out] at hst;have HV:Hid (∀ w,_):=Qb ⟨p.toArray⟩ (by have:=HIF.out p (List.mem_of_getElem? hp);show p.toArray.size≤_;simpa using this);have hpd:(⟨p.toArray⟩:ByteArray).data.toList=p:=by simp
   rw [hpd] at HV;have hqq:((⟨p.toArray⟩:ByteArray).toList == nm.toList)=(p == nm.data.toList):=by rw [Lib.toList_data,Lib.toList_data,hpd]
   have hpp:∀ q:List UInt8,((⟨p.toArray⟩:ByteArray).toList == (⟨q.toArray⟩:ByteArray).toList)=(p == q):=fun q=>by rw [Lib.toList_data,Lib.toList_data,hpd,show (⟨q.toArray⟩:ByteArray).data.toList=q by simp]
   obtain ⟨P,hP⟩:∃ P:ByteArray,P=⟨p.toArray⟩:=⟨_,rfl⟩;have HCI:Hid (∀ k q,ifs[k]?=some q→wr.cell? ⟨bk,o+k,none⟩=some (.string ⟨q.toArray⟩)):=fun k q hk=>(hb.out.cell hbk).trans (hc k q hk);have e1:wr.cell? ⟨bk,o+i,none⟩=some (.string P):=by rw [hP];exact HCI.out i p hp
   have hbk2:bk<wr.heap.size:=Nat.lt_of_lt_of_le hbk hb.out.size;rw [← hP] at hqq HV;rw [← hP] at hpp;have HPP:Hid _:=hpp;have HP:Hid (ifs[i]?=some p):=hp;clear hP hpd hpp hp;obtain ⟨σ,V,hne,V1,V2⟩:=Zlf (fun w'=>Bw wr w') ⟨_,Below.refl _ _⟩;obtain ⟨g0,d0,d1,d2,d3,d4,d5⟩:=hcb.out;have v0:∀ s,(V s).cell? ⟨w.heap.size,0,none⟩=some (.string nm):=fun s=>((V1.out s).cell g0).trans d0;have v2:∀ s,(V s).cell? ⟨w.heap.size,2,none⟩=some (.slice (some ⟨bk,o,none⟩) K capi):=fun s=>((V1.out s).cell g0).trans d2;have v9:∀ s,(V s).cell? ⟨bk,o+i,none⟩=some (.string P):=fun s=>((V1.out s).cell hbk2).trans e1;generalize hvp:Zl p=vp at *;have HVs:Hid (∀ s,Calls Tryz.prog 26 #[.string P] (V s) fun e w''=>e=.returned (.bool vp)∧∃ s',w''=V s'):=fun s=>(HV.out (V s)).mono fun e w'' zz=>⟨zz.1,V2.out _ (Below.step (V1.out s) zz.2)⟩;clear hc HV hvp
   cases vp with
   | false =>
     have HZ:Hid (z=1):=by rw [Hid,HR2.out,hst];simp
     clear hst HR2 hs d0 d1 d3 d4 d5 g0 e1 hqq;go_wp2;clear d2;refine Zs (C:=fun w'=>∃ s,w'=V s) (by kernel_rfl) (by kernel_rfl) (V2.out _ ((Below.refl _ _).drew)) ?_
     repeat (go_big_quiet_step ((go_at_call 26;exact HVs.out _)))
     refine wpQuiet_nil ?_;intro w9 hw9;obtain ⟨s9,rfl⟩:=hw9;go_wp2;go_ret
     exact ⟨Zg HZ.out.symm,Below.step hb.out (V1.out s9)⟩
   | true =>
     generalize (p == nm.data.toList)=pn at *
     cases pn with
     | true =>
       have HZ:Hid (z=1):=by rw [Hid,HR2.out,hst];simp
       clear hst HR2 hs d0 d1 d3 d4 d5 g0 e1;go_wp2;clear d2;refine Zs (C:=fun w'=>∃ s,w'=V s) (by kernel_rfl) (by kernel_rfl) (V2.out _ ((Below.refl _ _).drew)) ?_
       repeat (go_big_quiet_step ((go_at_call 26;exact HVs.out _)))
       refine wpQuiet_nil ?_;intro w9 hw9;obtain ⟨s9,rfl⟩:=hw9;go_wp2;go_ret
       exact ⟨Zg HZ.out.symm,Below.step hb.out (V1.out s9)⟩
     | false =>
       have HST:Hid (ifsB nm.data.toList [] ifs=(!(ifs.take i).contains p&&ifsB nm.data.toList (ifs.take (i+1)) (ifs.drop (i+1)))):=by rw [Hid,hst];simp
       clear hst hs d0 d1 d3 d4 d5 g0 e1;go_wp2;clear d2;refine Zs (C:=fun w'=>∃ s,w'=V s) (by kernel_rfl) (by kernel_rfl) (V2.out _ ((Below.refl _ _).drew)) ?_
       repeat (go_big_quiet_step ((go_at_call 26;exact HVs.out _)))
       refine wpQuiet_nil ?_;intro w9 hw9;obtain ⟨s9,rfl⟩:=hw9;have hV9:Hid (Bw wr (V s9)):=V1.out s9;have f2:=v2 s9;have f9:=v9 s9;clear v0 v2 v9 hqq HVs;generalize V s9=w5 at *;clear V1 V2 hne;go_wp2
       go_loopg [4] i (fun g jv wi=>∃ j:Nat,jv=.int .i64 j∧j≤i∧g=i - j∧(∃ n,wi=w5.drewN n)∧Hid (∀ j',j'<j→ifs[j']?≠some p))
       case atStart=>exact ⟨0,rfl,Nat.zero_le _,rfl,⟨0,rfl⟩,fun j' h=>absurd h (Nat.not_lt_zero _)⟩
       case round =>
        obtain ⟨j,rfl,hj,rfl,⟨n,rfl⟩,hno⟩:=hrel;by_cases hjl:j<i
        ·obtain ⟨q,hq⟩:∃ q,ifs[j]?=some q:=⟨_,List.getElem?_eq_getElem (by rw [HK.out];omega)⟩;have f8:=(hV9.out.cell hbk2).trans (HCI.out j q hq);have hpq:=HPP.out q;obtain ⟨QQ,hQQ⟩:∃ Z:ByteArray,Z=⟨q.toArray⟩:=⟨_,rfl⟩;rw [← hQQ] at f8 hpq;clear hQQ
         cases hqe:(p == q) with
         | true =>
           rw [hqe] at hpq;have HZ:Hid (z=1):=by
            rw [Hid,HR2.out,HST.out,take_has (hq.trans (by rw [← beq_iff_eq.1 hqe])) hjl];simp
           clear hqe hq HR2 HST;go_wp2
           go_quiet (fail)
           go_wp2;go_ret
           exact ⟨Zg HZ.out.symm,Below.step hb.out (by first|exact below_drewN (below_drewN hV9.out _) _|exact below_drewN hV9.out _)⟩
         | false =>
           rw [hqe] at hpq;have HNO:Hid (∀ j',j'<j+1→ifs[j']?≠some p):=fun j' h' e=>by
            by_cases e':j'=j
            ·subst e';rw [hq] at e;injection e with e;rw [e] at hqe;simp at hqe
            ·exact hno.out j' (by omega) e
           clear hqe hq;go_wp2
           go_quiet (fail)
           go_wp2
           go_roundg (i - (j+1))
           case measure=>omega
           case rel=>exact ⟨j+1,by go_num,by omega,rfl,⟨_,rfl⟩,HNO⟩
        ·have e:j=i:=by omega
         subst e;have HST2:Hid (ifsB nm.data.toList (ifs.take (j+1)) (ifs.drop (j+1))=ifsB nm.data.toList [] ifs):=by rw [Hid,HST.out,take_not hno.out];simp
         clear HST hno;go_wp2
         go_roundg (K - (j+1))
         case measure=>omega
         case rel=>exact ⟨j+1,by go_num,by omega,rfl,hcb.out.keep (below_drewN hV9.out _),Below.step hb.out (below_drewN hV9.out _),HST2⟩
  ·have e:i=K:=by omega
   subst e;obtain ⟨g0,d0,d1,d2,d3,d4,d5⟩:=hcb.out;have HR3:Hid (z=if Qf (hasI fl 512) ms ms 0 then 0 else 1):=by
    rw [Hid,HR2.out,← hs.out,List.drop_of_length_le (by rw [HK.out];exact Nat.le_refl _)];simp [ifsB]
   clear HR2 hs d0 d1 d3 d4;go_wp2;clear d2 d5 g0
   go_loopg [5] M (fun g iv wi=>∃ k:Nat,iv=.int .i64 k∧k≤M∧g=M - k∧Hid (CB wi w.heap.size nm su (.slice ai i capi) fl ld (.slice am M capm))∧Hid (Bw w wi)∧Hid (Qf (hasI fl 512) ms (ms.drop k) k=Qf (hasI fl 512) ms ms 0))
   case atStart=>exact ⟨0,rfl,Nat.zero_le _,rfl,hcb,hb,rfl⟩
   case round =>
    obtain ⟨k,rfl,hk,rfl,hcb2,hb2,hs2⟩:=hrel;obtain ⟨g0,d0,d1,d2,d3,d4,d5⟩:=hcb2.out;by_cases hlt2:k<M
    ·obtain ⟨bk,o,hao,hbk,hc⟩:=HMA.out (by intro e;have:=HL.out;rw [e] at this;simp at this;omega);obtain ⟨x,hx⟩:∃ x,ms[k]?=some x:=⟨_,List.getElem?_eq_getElem (by rw [HL.out];exact hlt2)⟩;subst hao;have hst:=Zky (hasI fl 512) ms k x hx;rw [hs2.out] at hst;obtain ⟨k1,k2,k3⟩:=HMO.out x (List.mem_of_getElem? hx);have hcx:=hc k x hx;obtain ⟨xn,xd,xf,xl,xs,xc⟩:=x;obtain ⟨p0,p1,p2,p3,p4,vc,p5,hI⟩:=hcx;simp only at p0 p1 p2 p3 p4 p5 hI k1 k2 k3 hst;have HI2:Hid (IsInss w vc xc):=hI;obtain ⟨va,vcap,rfl,_,_,_⟩:=hI;replace p0:=(hb2.out.cell hbk).trans p0;replace p1:=(hb2.out.cell hbk).trans p1;replace p2:=(hb2.out.cell hbk).trans p2;replace p3:=(hb2.out.cell hbk).trans p3;replace p4:=(hb2.out.cell hbk).trans p4;replace p5:=(hb2.out.cell hbk).trans p5;obtain ⟨σ,V,hne,V1,V2⟩:=Zlf (fun w'=>Below (wr.alloc (.cells #[.string xn,.string xd,.int .i64 xf,.int .i64 xl,.int .i64 xs,.slice va xc.length vcap] 34)).heap.size (wr.alloc (.cells #[.string xn,.string xd,.int .i64 xf,.int .i64 xl,.int .i64 xs,.slice va xc.length vcap] 34)) w') ⟨_,Below.refl _ _⟩;have VB:Hid (∀ s,Bw w (V s)):=fun s=>Below.step (hb2.out.alloc hb2.out.size _) (V1.out s);have VC:Hid (∀ s,CB (V s) w.heap.size nm su (.slice ai i capi) fl ld (.slice (some ⟨bk,o,none⟩) M capm)):=fun s=>(hcb2.out.keep ((Below.refl _ _).alloc (Nat.le_refl _) _)).keep (V1.out s);have v0:∀ s,(V s).cell? ⟨w.heap.size,0,none⟩=some (.string nm):=fun s=>(VC.out s).2.1;have v1:∀ s,(V s).cell? ⟨w.heap.size,1,none⟩=some (.string su):=fun s=>(VC.out s).2.2.1;have v2:∀ s,(V s).cell? ⟨w.heap.size,2,none⟩=some (.slice ai i capi):=fun s=>(VC.out s).2.2.2.1;have v3:∀ s,(V s).cell? ⟨w.heap.size,3,none⟩=some (.int .i64 fl):=fun s=>(VC.out s).2.2.2.2.1;have v4:∀ s,(V s).cell? ⟨w.heap.size,4,none⟩=some (.int .i64 ld):=fun s=>(VC.out s).2.2.2.2.2.1;have v5:∀ s,(V s).cell? ⟨w.heap.size,5,none⟩=some (.slice (some ⟨bk,o,none⟩) M capm):=fun s=>(VC.out s).2.2.2.2.2.2;have u0:∀ s,(V s).cell? ⟨wr.heap.size,0,none⟩=some (.string xn):=fun s=>((V1.out s).cell (p:=⟨wr.heap.size,0,none⟩) (by simp)).trans (by simp [go_sem]);have u1:∀ s,(V s).cell? ⟨wr.heap.size,1,none⟩=some (.string xd):=fun s=>((V1.out s).cell (p:=⟨wr.heap.size,1,none⟩) (by simp)).trans (by simp [go_sem]);have u2:∀ s,(V s).cell? ⟨wr.heap.size,2,none⟩=some (.int .i64 xf):=fun s=>((V1.out s).cell (p:=⟨wr.heap.size,2,none⟩) (by simp)).trans (by simp [go_sem]);have u3:∀ s,(V s).cell? ⟨wr.heap.size,3,none⟩=some (.int .i64 xl):=fun s=>((V1.out s).cell (p:=⟨wr.heap.size,3,none⟩) (by simp)).trans (by simp [go_sem]);have u4:∀ s,(V s).cell? ⟨wr.heap.size,4,none⟩=some (.int .i64 xs):=fun s=>((V1.out s).cell (p:=⟨wr.heap.size,4,none⟩) (by simp)).trans (by simp [go_sem]);have u5:∀ s,(V s).cell? ⟨wr.heap.size,5,none⟩=some (.slice va xc.length vcap):=fun s=>((V1.out s).cell (p:=⟨wr.heap.size,5,none⟩) (by simp)).trans (by simp [go_sem])
     have HHs:Hid (∀ s,Calls Tryz.prog 29 #[.int .i64 fl,.int .i64 512] (V s) fun e w''=>e=.returned (.bool (hasI fl 512))∧∃ s',w''=V s'):=fun s=>(Zb9 fl 512 (V s)).mono fun e w'' zz=>⟨zz.1,s,zz.2⟩;generalize hasI fl 512=hh at *;generalize hmb:mthB ⟨xn,xd,xf,xl,xs,xc⟩ hh=mb at *;generalize hfi:Xz xn xd ms 0=fi at *;have HMs:Hid (∀ s,Calls Tryz.prog 28 #[.agg #[.string xn,.string xd,.int .i64 xf,.int .i64 xl,.int .i64 xs,.slice va xc.length vcap],.bool hh] (V s) fun e w''=>e=.returned (.bool mb)∧∃ s',w''=V s'):=fun s=>(Ziv xn xd xf xl xs _ xc hh k1 k2 (V s) (HI2.out.keep (VB.out s)) k3).mono fun e w'' zz=>⟨zz.1.trans (by rw [hmb]),V2.out _ (Below.step (V1.out s) zz.2)⟩;have HFs:Hid (∀ s,Calls Tryz.prog 11 #[.agg #[.string nm,.string su,.slice ai i capi,.int .i64 fl,.int .i64 ld,.slice (some ⟨bk,o,none⟩) M capm],.string xn,.string xd] (V s) fun e w''=>e=.returned (.int .i64 fi)∧∃ s',w''=V s'):=fun s=>(Znt nm su _ fl ld _ ms xn xd (V s) (HM.out.keep (VB.out s))).mono fun e w'' zz=>⟨zz.1.trans (by rw [hfi]),V2.out _ (Below.step (V1.out s) zz.2)⟩;clear hc k1 k2 k3 hmb hfi hx d0 d1 d2 d3 d4 hs2
     cases mb with
     | false =>
       have HZ:Hid (z=1):=by rw [Hid,HR3.out,hst];simp
       clear hst HR3;go_wp2;refine Zs (C:=fun w'=>∃ s,w'=V s) (by kernel_rfl) (by kernel_rfl) (V2.out _ ((Below.refl _ _).drew)) ?_
       repeat (go_big_quiet_step (first|(go_at_call 29;exact HHs.out _)|(go_at_call 28;exact HMs.out _)|(go_at_call 11;exact HFs.out _)))
       refine wpQuiet_nil ?_;intro w9 hw9;obtain ⟨s9,rfl⟩:=hw9;have hV9:Hid (Bw w (V s9)):=VB.out s9;have hC9:Hid (CB (V s9) w.heap.size nm su (.slice ai i capi) fl ld (.slice (some ⟨bk,o,none⟩) M capm)):=VC.out s9;go_wp2;go_ret
       exact ⟨Zg HZ.out.symm,hV9.out⟩
     | true =>
     cases hfk:(fi == (k:Int)) with
     | false =>
       have HZ:Hid (z=1):=by rw [Hid,HR3.out,hst,hfk];simp
       have hfn:(fi != (k:Int))=true:=by rw [bne,hfk];rfl
       clear hst HR3 hfk;go_wp2;refine Zs (C:=fun w'=>∃ s,w'=V s) (by kernel_rfl) (by kernel_rfl) (V2.out _ ((Below.refl _ _).drew)) ?_
       repeat (go_big_quiet_step (first|(go_at_call 29;exact HHs.out _)|(go_at_call 28;exact HMs.out _)|(go_at_call 11;exact HFs.out _)))
       refine wpQuiet_nil ?_;intro w9 hw9;obtain ⟨s9,rfl⟩:=hw9;have hV9:Hid (Bw w (V s9)):=VB.out s9;have hC9:Hid (CB (V s9) w.heap.size nm su (.slice ai i capi) fl ld (.slice (some ⟨bk,o,none⟩) M capm)):=VC.out s9;go_wp2;go_ret
       exact ⟨Zg HZ.out.symm,hV9.out⟩
     | true =>
       have HST:Hid (Qf hh ms (ms.drop (k+1)) (k+1)=Qf hh ms ms 0):=by rw [Hid,hst,hfk];simp
       have hfn:(fi != (k:Int))=false:=by rw [bne,hfk];rfl
       clear hst hfk;go_wp2;refine Zs (C:=fun w'=>∃ s,w'=V s) (by kernel_rfl) (by kernel_rfl) (V2.out _ ((Below.refl _ _).drew)) ?_
       repeat (go_big_quiet_step (first|(go_at_call 29;exact HHs.out _)|(go_at_call 28;exact HMs.out _)|(go_at_call 11;exact HFs.out _)))
       refine wpQuiet_nil ?_;intro w9 hw9;obtain ⟨s9,rfl⟩:=hw9;have hV9:Hid (Bw w (V s9)):=VB.out s9;have hC9:Hid (CB (V s9) w.heap.size nm su (.slice ai i capi) fl ld (.slice (some ⟨bk,o,none⟩) M capm)):=VC.out s9;go_wp2
       go_roundg (M - (k+1))
       case measure=>omega
       case rel=>exact ⟨k+1,by go_num,by omega,rfl,hC9,hV9,HST⟩
    ·have e:k=M:=by omega
     subst e;have HZ:Hid (z=0):=by
      rw [Hid,HR3.out,← hs2.out,List.drop_of_length_le (by rw [HL.out];exact Nat.le_refl _)];simp [Qf]
     clear HR3 hs2;go_wp2;go_ret
     exact ⟨Zg HZ.out.symm,hb2.out⟩
def wordsL:List (List UInt8):=[[],[105,99,111,110,115,116],[105,108,111,97,100],[105,115,116,111,114,101],[97,108,111,97,100],[97,115,116,111,114,101],[110,117,108,108],[105,97,100,100],[105,115,117,98],[105,109,117,108],[105,100,105,118],[103,111,116,111],[105,102,101,113],[105,102,110,101],[105,102,108,116],[105,102,99,109,112,101,113],[105,102,99,109,112,108,116],[105,102,97,99,109,112,101,113],[105,102,110,117,108,108],[112,111,112],[100,117,112],[115,119,97,112],[110,101,119],[110,101,119,97,114,114,97,121],[109,117,108,116,105,110,101,119],[97,114,114,97,121,108,101,110,103,116,104],[105,97,108,111,97,100],[105,97,115,116,111,114,101],[97,97,108,111,97,100],[97,97,115,116,111,114,101],[99,104,101,99,107,99,97,115,116],[105,110,115,116,97,110,99,101,111,102],[105,110,118,111,107,101,118,105,114,116,117,97,108],[105,110,118,111,107,101,105,110,116,101,114,102,97,99,101],[105,110,118,111,107,101,115,112,101,99,105,97,108],[105,110,118,111,107,101,115,116,97,116,105,99],[105,114,101,116,117,114,110],[97,114,101,116,117,114,110],[114,101,116,117,114,110],[112,114,105,110,116],[112,114,105,110,116,99,108,97,115,115]]
def Zm6:Array Value:=(wordsL.map strV).toArray
theorem X9:wordsL.length=41:=rfl
theorem Zly (w:World):Calls Tryz.prog 83 #[] w fun e w'=>e=.returned (.slice (some ⟨w.heap.size,0,none⟩) 41 41)∧w'=w.alloc (.cells Zm6 9):=by
 go_enter Tryz.func83,Tryz.ntmps83;go_wp2;go_ret
 exact ⟨rfl,rfl⟩
theorem Zlj (w:World) (i:Nat) (x:List UInt8) (h:wordsL[i]?=some x):(w.alloc (.cells Zm6 9)).cell? ⟨w.heap.size,i,none⟩=some (.string ⟨x.toArray⟩):=by
 rw [cell_of_row _ w.heap.size i _ 9 (0,0) (heap_alloc_new w _)];rw [Zm6,List.getElem?_toArray,List.getElem?_map,h];rfl
theorem Zlx (w:World):Calls Tryz.prog 83 #[] w fun e w'=>e=.returned (.slice (some ⟨w.heap.size,0,none⟩) 41 41)∧Bw w w'∧∀ (i:Nat) (x:List UInt8),wordsL[i]?=some x→w'.cell? ⟨w.heap.size,i,none⟩=some (.string ⟨x.toArray⟩) :=
 (Zly w).mono fun e w' ⟨he,hw⟩=>⟨he,by rw [hw];exact (Below.refl _ _).alloc (Nat.le_refl _) _,by rw [hw];exact Zlj w⟩
def Xh (l:List UInt8):Nat→List (List UInt8)→Nat
 | _,[]=>0
 | i,x::r=>if x=l then i else Xh l (i+1) r
def opOf (l:List UInt8):Nat:=Xh l 1 (wordsL.drop 1)
theorem Zn7 (l:List UInt8) (i:Nat) (x:List UInt8) (h:wordsL[i]?=some x):Xh l i (wordsL.drop i)=if x=l then i else Xh l (i+1) (wordsL.drop (i+1)):=by
 obtain ⟨hi,hx⟩:=List.getElem?_eq_some_iff.1 h;rw [List.drop_eq_getElem_cons hi,Xh,hx]
theorem Zik (a b:ByteArray):(a.toList == b.toList)=(a.data.toList == b.data.toList):=by rw [Lib.toList_data,Lib.toList_data]
theorem Zz (s:ByteArray) (w:World):Calls Tryz.prog 96 #[.string s] w fun e w'=>e=.returned (.int .i64 (opOf s.data.toList))∧Bw w w':=by
 have HW:Hid (∀ w,_):=Zlx;go_enter Tryz.func96,Tryz.ntmps96;go_wp2_with (go_at_call 83;refine (HW.out _).mono ?_;rintro e w1 ⟨rfl,HB,HC⟩;have HB:Hid _:=HB;have HC:Hid _:=HC;clear HW)
 go_loop [4] (fun iv=>∃ (i:Nat),iv=.int .i64 i∧1≤i∧i≤41∧Hid (opOf s.data.toList=Xh s.data.toList i (wordsL.drop i))) (fun iv=>41 - (intOf iv).toNat)
 case atStart=>exact ⟨1,rfl,by omega,by omega,rfl⟩
 case round =>
  obtain ⟨i,rfl,hi1,hi,hO⟩:=hrel;by_cases hlt:i<41
  ·obtain ⟨x,hx⟩:∃ x,wordsL[i]?=some x:=⟨_,List.getElem?_eq_getElem (by rw [X9];exact hlt)⟩;have c0:=HC.out i x hx;have hst:=Zn7 s.data.toList i x hx;obtain ⟨X,hX⟩:∃ X:ByteArray,X=⟨x.toArray⟩:=⟨_,rfl⟩;rw [← hX] at c0;have hbe:(X.toList == s.toList)=(x == s.data.toList):=by rw [Zik,hX]
   by_cases he:x=s.data.toList
   ·have hq:(X.toList == s.toList)=true:=by rw [hbe];simp [he]
    have HN:Hid (opOf s.data.toList=i):=by rw [Hid,hO.out,hst,if_pos he]
    clear hst hbe hO HC hx hX he;go_wp2;go_ret
    exact ⟨Zg (by rw [HN.out]),HB.out⟩
   ·have hq:(X.toList == s.toList)=false:=by rw [hbe];simp [he]
    have HN:Hid (opOf s.data.toList=Xh s.data.toList (i+1) (wordsL.drop (i+1))):=by rw [Hid,hO.out,hst,if_neg he]
    clear hst hbe hO HC hx hX he;go_wp2
    go_round
    case rel=>exact ⟨i+1,by go_num,by omega,by omega,HN⟩
    case measure=>simp [intOf];omega
  ·have HN:Hid (opOf s.data.toList=0):=by
    have:i=41:=by omega
    rw [Hid,hO.out,this];rfl
   clear hO HC;go_wp2;go_ret
   exact ⟨Zg (by rw [HN.out];rfl),HB.out⟩
end Go.Proofs.YtfbhjfpkhofifaaGreatDoor
