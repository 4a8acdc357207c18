import Derived.Test.YtfbhjfpkhofifaaGreatDoorCodeK
import Derived.Test.YtfbhjfpkhofifaaGreatDoorFlagsParse
set_option maxHeartbeats 8000000
set_option maxRecDepth 100000
namespace Go.Proofs.YtfbhjfpkhofifaaGreatDoor
open Go.RowKit
def ickI (i:Ins):Int:=ickE i.op i.n i.t i.b i.c i.m i.d
def badI (locals len:Int) (i:Ins):Bool:=(ickI i != 0)||((opdI i.op == 2)&&decide (locals≤i.n))||((opdI i.op == 3)&&decide (len≤i.n))
def allE (l:List Ins) (locals:Int):Int:=if l.length<1∨200<l.length then 1 else if l.any (badI locals l.length) then 1 else 0
def Zib (i:Ins):Prop:=i.t.size≤maxLen∧i.c.size≤maxLen∧i.m.size≤maxLen∧i.d.size≤maxLen
theorem any_at {l:List Ins} {p:Ins→Bool} (k:Nat) (x:Ins) (h:l[k]?=some x):(l.drop k).any p=(p x||(l.drop (k+1)).any p):=by
 obtain ⟨h1,h2⟩:=List.getElem?_eq_some_iff.1 h;rw [List.drop_eq_getElem_cons h1,h2,List.any_cons]
theorem Qs (op n:Int) (t:ByteArray) (b:Bool) (c m d:ByteArray):ickE op n t b c m d=0∨ickE op n t b c m d=1:=by
 unfold ickE;split <;> simp
theorem Zf2 (v:Value) (l:List Ins) (locals:Int) (W:World) (h:IsInss W v l) (hok:∀ i∈l,Zib i):Calls Tryz.prog 65 #[v,.int .i64 locals] W fun e w'=>e=.returned (.int .i64 (allE l locals))∧Bw W w':=by
 obtain ⟨ao,cap,rfl,h1,h2,h3⟩:=h;obtain ⟨N,hN⟩:∃ N,l.length=N:=⟨_,rfl⟩;unfold maxLen at h2;have HE:Hid (allE l locals=if N<1∨200<N then 1 else if l.any (badI locals N) then 1 else 0):=by rw [Hid,allE,hN]
 rw [hN] at h1 ⊢;have HN1:Hid (l.length=N):=hN;have HA:Hid _:=h3;have HOK:Hid _:=hok;clear hN h3 hok;by_cases hlen:N<1∨200<N
 ·have HZ:Hid (allE l locals=1):=by rw [Hid,HE.out,if_pos hlen]
  clear HE HA HOK HN1;rcases hlen with hlen|hlen
  ·have hlen2:(N:Int)<1:=by omega
   go_enter Tryz.func65,Tryz.ntmps65;go_wp2;go_ret
   exact ⟨Zg HZ.out.symm,Below.refl _ _⟩
  ·have hlen2:¬ (N:Int)<1:=by omega
   have hlen3:(200:Int)<N:=by omega
   go_enter Tryz.func65,Tryz.ntmps65;go_wp2;go_ret
   exact ⟨Zg HZ.out.symm,Below.refl _ _⟩
 ·have hlo:1≤N:=by omega
  have hhi:N≤200:=by omega
  have HE2:Hid (allE l locals=if l.any (badI locals N) then 1 else 0):=by rw [Hid,HE.out,if_neg hlen]
  have hlen2:¬ (N:Int)<1:=by omega
  have hlen3:¬ (200:Int)<N:=by omega
  clear HE hlen;go_enter Tryz.func65,Tryz.ntmps65;go_wp2;go_loopw [5] (fun iv wr=>∃ i:Nat,iv=.int .i64 i∧i≤N∧Hid (Bw W wr)∧Hid ((l.drop i).any (badI locals N)=l.any (badI locals N))) (fun iv _=>N - (intOf iv).toNat)
  case atStart=>exact ⟨0,rfl,Nat.zero_le _,Below.refl _ _,rfl⟩
  case round =>
   obtain ⟨i,rfl,hi,hb,hs⟩:=hrel;by_cases hlt:i<N
   ·obtain ⟨bk,o,hao,hbk,hc⟩:=HA.out (by intro e;have:=HN1.out;rw [e] at this;simp at this;omega);obtain ⟨x,hx⟩:∃ x,l[i]?=some x:=⟨_,List.getElem?_eq_getElem (by rw [HN1.out];exact hlt)⟩;subst hao;have hst:=any_at (p:=badI locals N) i x hx;rw [hs.out] at hst;have hcx:=hc i x hx;obtain ⟨k1,k2,k3,k4⟩:=HOK.out x (List.mem_of_getElem? hx);have HO:Hid (∀ w,_):=Zd x.op;have HC:=Zw x.op x.n x.t x.b x.c x.m x.d k1 k2 k3 k4;have hbad:badI locals N x=((ickE x.op x.n x.t x.b x.c x.m x.d != 0)||((opdI x.op == 2)&&decide (locals≤x.n))||((opdI x.op == 3)&&decide ((N:Int)≤x.n))):=rfl;have h01:=Qs x.op x.n x.t x.b x.c x.m x.d;obtain ⟨xo,xn,xt,xb,xc,xm,xd⟩:=x;simp only at HO HC hbad h01;generalize ickE xo xn xt xb xc xm xd=ck at *;generalize badI locals N _=bad at *;generalize opdI xo=kk at *;obtain ⟨p0,p1,p2,p3,p4,p5,p6⟩:=hcx.keep hb.out hbk;simp only at p0 p1 p2 p3 p4 p5 p6;have hbk2:bk<wr.heap.size:=Nat.lt_of_lt_of_le hbk hb.out.size;have HC:Hid (∀ w,_):=HC;clear hc hcx HA HOK hx k1 k2 k3 k4 hs;rcases h01 with rfl|rfl
    ·by_cases e2:kk=2
     ·by_cases hl:locals≤xn
      ·have g0:((0:Int) != 0)=false:=rfl;have g2:(kk == 2)=true:=by rw [e2];rfl
       have g3:(kk == 3)=false:=by rw [e2];rfl
       have gl:decide (locals≤xn)=true:=by simpa using hl
       have HF:Hid (allE l locals=1):=by rw [Hid,HE2.out,hst,show bad=true by rw [hbad];simp [*]];rfl
       clear hst hbad HE2;go_wp2_with (first
        | (go_at_call 84;refine (HO.out _).mono ?_;rintro e w3 ⟨rfl,hw3⟩;rw [hw3];clear hw3 HO)
        | (go_at_call 82;refine (HC.out _).mono ?_;rintro e w1 ⟨rfl,hb1⟩;have c1:w1.cell? ⟨bk,o+i * 7+1,none⟩=some (.int .i64 xn):=(hb1.cell (p:=⟨bk,o+i * 7+1,none⟩) hbk2).trans p1;have hB1:Hid (Bw W w1):=Below.step hb.out hb1;clear hb1 HC))
       go_ret
       exact ⟨Zg HF.out.symm,hB1.out⟩
      ·have g0:((0:Int) != 0)=false:=rfl;have g2:(kk == 2)=true:=by rw [e2];rfl
       have g3:(kk == 3)=false:=by rw [e2];rfl
       have gl:decide (locals≤xn)=false:=by simpa using hl
       have HF:Hid ((l.drop (i+1)).any (badI locals N)=l.any (badI locals N)):=by rw [Hid,hst,show bad=false by rw [hbad];simp [*]];simp
       clear hst hbad HE2;go_wp2_with (first
        | (go_at_call 84;refine (HO.out _).mono ?_;rintro e w3 ⟨rfl,hw3⟩;rw [hw3];clear hw3 HO)
        | (go_at_call 82;refine (HC.out _).mono ?_;rintro e w1 ⟨rfl,hb1⟩;have c1:w1.cell? ⟨bk,o+i * 7+1,none⟩=some (.int .i64 xn):=(hb1.cell (p:=⟨bk,o+i * 7+1,none⟩) hbk2).trans p1;have hB1:Hid (Bw W w1):=Below.step hb.out hb1;clear hb1 HC))
       go_roundw
       case rel=>exact ⟨i+1,by go_num,by omega,hB1,HF⟩
       case measure=>simp [intOf];omega
     ·by_cases e3:kk=3
      ·by_cases hl:(N:Int)≤xn
       ·have g0:((0:Int) != 0)=false:=rfl;have g2:(kk == 2)=false:=by rw [e3];rfl
        have g3:(kk == 3)=true:=by rw [e3];rfl
        have gl:decide ((N:Int)≤xn)=true:=by simpa using hl
        have HF:Hid (allE l locals=1):=by rw [Hid,HE2.out,hst,show bad=true by rw [hbad];simp [*]];rfl
        clear hst hbad HE2;go_wp2_with (first
         | (go_at_call 84;refine (HO.out _).mono ?_;rintro e w3 ⟨rfl,hw3⟩;rw [hw3];clear hw3 HO)
         | (go_at_call 82;refine (HC.out _).mono ?_;rintro e w1 ⟨rfl,hb1⟩;have c1:w1.cell? ⟨bk,o+i * 7+1,none⟩=some (.int .i64 xn):=(hb1.cell (p:=⟨bk,o+i * 7+1,none⟩) hbk2).trans p1;have hB1:Hid (Bw W w1):=Below.step hb.out hb1;clear hb1 HC))
        go_ret
        exact ⟨Zg HF.out.symm,hB1.out⟩
       ·have g0:((0:Int) != 0)=false:=rfl;have g2:(kk == 2)=false:=by rw [e3];rfl
        have g3:(kk == 3)=true:=by rw [e3];rfl
        have gl:decide ((N:Int)≤xn)=false:=by simpa using hl
        have HF:Hid ((l.drop (i+1)).any (badI locals N)=l.any (badI locals N)):=by rw [Hid,hst,show bad=false by rw [hbad];simp [*]];simp
        clear hst hbad HE2;go_wp2_with (first
         | (go_at_call 84;refine (HO.out _).mono ?_;rintro e w3 ⟨rfl,hw3⟩;rw [hw3];clear hw3 HO)
         | (go_at_call 82;refine (HC.out _).mono ?_;rintro e w1 ⟨rfl,hb1⟩;have c1:w1.cell? ⟨bk,o+i * 7+1,none⟩=some (.int .i64 xn):=(hb1.cell (p:=⟨bk,o+i * 7+1,none⟩) hbk2).trans p1;have hB1:Hid (Bw W w1):=Below.step hb.out hb1;clear hb1 HC))
        go_roundw
        case rel=>exact ⟨i+1,by go_num,by omega,hB1,HF⟩
        case measure=>simp [intOf];omega
      ·have g0:((0:Int) != 0)=false:=rfl;have g2:(kk == 2)=false:=by simpa using e2
       have g3:(kk == 3)=false:=by simpa using e3
       have HF:Hid ((l.drop (i+1)).any (badI locals N)=l.any (badI locals N)):=by rw [Hid,hst,show bad=false by rw [hbad];simp [*]];simp
       clear hst hbad HE2;go_wp2_with (first
        | (go_at_call 84;refine (HO.out _).mono ?_;rintro e w3 ⟨rfl,hw3⟩;rw [hw3];clear hw3 HO)
        | (go_at_call 82;refine (HC.out _).mono ?_;rintro e w1 ⟨rfl,hb1⟩;have c1:w1.cell? ⟨bk,o+i * 7+1,none⟩=some (.int .i64 xn):=(hb1.cell (p:=⟨bk,o+i * 7+1,none⟩) hbk2).trans p1;have hB1:Hid (Bw W w1):=Below.step hb.out hb1;clear hb1 HC))
       go_roundw
       case rel=>exact ⟨i+1,by go_num,by omega,hB1,HF⟩
       case measure=>simp [intOf];omega
    ·have g0:((1:Int) != 0)=true:=rfl;have HF:Hid (allE l locals=1):=by rw [Hid,HE2.out,hst,show bad=true by rw [hbad];simp [*]];rfl
     clear hst hbad HE2;go_wp2_with (first
      | (go_at_call 84;refine (HO.out _).mono ?_;rintro e w3 ⟨rfl,hw3⟩;rw [hw3];clear hw3 HO)
      | (go_at_call 82;refine (HC.out _).mono ?_;rintro e w1 ⟨rfl,hb1⟩;have c1:w1.cell? ⟨bk,o+i * 7+1,none⟩=some (.int .i64 xn):=(hb1.cell (p:=⟨bk,o+i * 7+1,none⟩) hbk2).trans p1;have hB1:Hid (Bw W w1):=Below.step hb.out hb1;clear hb1 HC))
     go_ret
     exact ⟨Zg HF.out.symm,hB1.out⟩
   ·have HF:Hid (allE l locals=0):=by
     rw [Hid,HE2.out,← hs.out,List.drop_of_length_le (by rw [HN1.out];omega)];rfl
    clear HA HOK hs HE2;go_wp2;go_ret
    exact ⟨Zg HF.out.symm,hb.out⟩
structure Mth where
 nm:ByteArray
 ds:ByteArray
 fl:Int
 lo:Int
 st:Int
 code:List Ins
structure Cls where
 nm:ByteArray
 su:ByteArray
 ifs:List (List UInt8)
 fl:Int
 ld:Int
 ms:List Mth
def MthAt (w:World) (bk o:Nat) (m:Mth):Prop :=
 w.cell? ⟨bk,o,none⟩=some (.string m.nm)∧w.cell? ⟨bk,o+1,none⟩=some (.string m.ds)∧w.cell? ⟨bk,o+2,none⟩=some (.int .i64 m.fl)∧w.cell? ⟨bk,o+3,none⟩=some (.int .i64 m.lo)∧w.cell? ⟨bk,o+4,none⟩=some (.int .i64 m.st)∧∃ v,w.cell? ⟨bk,o+5,none⟩=some v∧IsInss w v m.code
theorem MthAt.keep {w w':World} {bk o:Nat} {m:Mth} (h:MthAt w bk o m) (hb:Bw w w') (hlt:bk<w.heap.size):MthAt w' bk o m:=by
 obtain ⟨h0,h1,h2,h3,h4,v,h5,h6⟩:=h;exact ⟨(hb.cell hlt).trans h0,(hb.cell hlt).trans h1,(hb.cell hlt).trans h2,(hb.cell hlt).trans h3,(hb.cell hlt).trans h4,v,(hb.cell hlt).trans h5,h6.keep hb⟩
def IsMths (w:World) (v:Value) (l:List Mth):Prop :=
 ∃ ao cap,v=.slice ao l.length cap∧l.length≤cap∧cap≤maxLen ∧
   (l≠[]→∃ bk o,ao=some ⟨bk,o,none⟩∧bk<w.heap.size∧∀ k m,l[k]?=some m→MthAt w bk (o+k * 6) m)
theorem IsMths.keep {w w':World} {v:Value} {l:List Mth} (h:IsMths w v l) (hb:Bw w w'):IsMths w' v l:=by
 obtain ⟨ao,cap,rfl,h1,h2,h3⟩:=h;refine ⟨ao,cap,rfl,h1,h2,fun hne=>?_⟩;obtain ⟨bk,o,e,hlt,hc⟩:=h3 hne;exact ⟨bk,o,e,Nat.lt_of_lt_of_le hlt hb.size,fun k i hk=>(hc k i hk).keep hb hlt⟩
def clsV (c:Cls) (vi vm:Value):Value:=.agg #[.string c.nm,.string c.su,vi,.int .i64 c.fl,.int .i64 c.ld,vm]
def Xz (nm ds:ByteArray):List Mth→Nat→Int
 | [],_=>-1
 | m::r,k=>if (m.nm.toList == nm.toList)&&(m.ds.toList == ds.toList) then k else Xz nm ds r (k+1)
theorem Zlc {l:List Mth} {nm ds:ByteArray} (k:Nat) (x:Mth) (h:l[k]?=some x):Xz nm ds (l.drop k) k=if (x.nm.toList == nm.toList)&&(x.ds.toList == ds.toList) then (k:Int) else Xz nm ds (l.drop (k+1)) (k+1):=by
 obtain ⟨h1,h2⟩:=List.getElem?_eq_some_iff.1 h;rw [List.drop_eq_getElem_cons h1,h2,Xz]
theorem Znt (cn cs:ByteArray) (vi:Value) (cf cl:Int) (vm:Value) (ms:List Mth) (nm ds:ByteArray) (W:World) (h:IsMths W vm ms) :
 Calls Tryz.prog 11 #[.agg #[.string cn,.string cs,vi,.int .i64 cf,.int .i64 cl,vm],.string nm,.string ds] W fun e w'=>e=.returned (.int .i64 (Xz nm ds ms 0))∧Bw W w':=by
 obtain ⟨ao,cap,rfl,h1,h2,h3⟩:=h;obtain ⟨N,hN⟩:∃ N,ms.length=N:=⟨_,rfl⟩;unfold maxLen at h2;rw [hN] at h1 ⊢;have HN1:Hid (ms.length=N):=hN;have HA:Hid _:=h3;clear hN h3;go_enter Tryz.func11,Tryz.ntmps11;go_wp2;go_loopw [7] (fun iv wr=>∃ i:Nat,iv=.int .i64 i∧i≤N∧wr.cell? ⟨W.heap.size,5,none⟩=some (.slice ao N cap)∧Hid (Bw W wr)∧Hid (Xz nm ds (ms.drop i) i=Xz nm ds ms 0)) (fun iv _=>N - (intOf iv).toNat)
 case atStart=>exact ⟨0,rfl,Nat.zero_le _,by simp [go_sem],(Below.refl _ _).alloc (Nat.le_refl _) _,rfl⟩
 case round =>
  obtain ⟨i,rfl,hi,c5,hb,hs⟩:=hrel;by_cases hlt:i<N
  ·obtain ⟨bk,o,hao,hbk,hc⟩:=HA.out (by intro e;have:=HN1.out;rw [e] at this;simp at this;omega);obtain ⟨x,hx⟩:∃ x,ms[i]?=some x:=⟨_,List.getElem?_eq_getElem (by rw [HN1.out];exact hlt)⟩;subst hao;have hst:=Zlc (nm:=nm) (ds:=ds) i x hx;rw [hs.out] at hst;obtain ⟨p0,p1,_⟩:=hc i x hx;replace p0:=(hb.out.cell hbk).trans p0;replace p1:=(hb.out.cell hbk).trans p1;have hbk2:bk<wr.heap.size:=Nat.lt_of_lt_of_le hbk hb.out.size;obtain ⟨xn,xd,xf,xl,xs,xc⟩:=x;simp only at p0 p1 hst;clear hc hs HA hx
   cases q1:(xn.toList == nm.toList) with
   | false =>
     have HN:Hid (Xz nm ds (ms.drop (i+1)) (i+1)=Xz nm ds ms 0):=by rw [Hid,hst,q1];rfl
     clear hst;go_wp2;go_roundw
     case rel=>exact ⟨i+1,by go_num,by omega,c5,hb,HN⟩
     case measure=>simp [intOf];omega
   | true =>
     cases q2:(xd.toList == ds.toList) with
     | false =>
       have HN:Hid (Xz nm ds (ms.drop (i+1)) (i+1)=Xz nm ds ms 0):=by rw [Hid,hst,q1,q2];rfl
       clear hst;go_wp2;go_roundw
       case rel=>exact ⟨i+1,by go_num,by omega,c5,hb,HN⟩
       case measure=>simp [intOf];omega
     | true =>
       have HN:Hid (Xz nm ds ms 0=(i:Int)):=by rw [Hid,hst,q1,q2];rfl
       clear hst;go_wp2;go_ret
       exact ⟨Zg HN.out.symm,hb.out⟩
  ·have e:i=N:=by omega
   subst e;have HN:Hid (Xz nm ds ms 0=-1):=by rw [Hid,← hs.out,List.drop_of_length_le (by rw [HN1.out];exact Nat.le_refl _)];rfl
   clear hs HA;go_wp2;go_ret
   exact ⟨Zg HN.out.symm,hb.out⟩
theorem Znu (s:ByteArray) (hs:s.size≤maxLen) (w:World):Calls Tryz.prog 33 #[.string s] w fun e w'=>e=.returned (.tuple #[.int .i64 ((pdD s.data.toList).1.length:Int),.int .i64 (pdE s.data.toList)])∧Bw w w':=by
 have HD:Hid (∀ w,_):=Qw s hs;clear hs;unfold DOut at HD;generalize pdE s.data.toList=pd at *;generalize pdD s.data.toList=dd at *;go_enter Tryz.func33,Tryz.ntmps33;go_wp2_with (first
  | (go_at_call 64;refine ((HD.out) _).mono ?_;rintro e w3 ⟨v,rfl,ho3,hb3⟩;obtain ⟨v1,v2,rfl⟩:=Zi ho3))
 go_ret2
 exact ⟨rfl,hb3.alloc hb3.size _⟩
theorem Zny (l:List UInt8):(pdD l).1.length≤20:=by
 unfold pdD
 split
 ·rename_i h
  unfold pdE at h
  split at h
  ·exact absurd h (by decide)
  ·split at h
   ·exact absurd h (by decide)
   ·rename_i d hd
    split at h
    ·exact absurd h (by decide)
    ·rename_i hg
     simp only [Qp,Bool.not_eq_true,Bool.or_eq_false_iff,decide_eq_false_iff_not] at hg;rw [hd];have:=hg.1.1;simp only [Option.getD_some];omega
 ·simp
def wdsN (ds:List UInt8) (fl:Int):Int:=if pdE ds=0 then ((pdD ds).1.length:Int)+(if hasI fl 8 then 0 else 1) else 0
def wdsE (ds:List UInt8):Int:=if pdE ds=0 then 0 else 1
theorem Zit (nm ds:ByteArray) (fl lo st:Int) (vc:Value) (hd:ds.size≤maxLen) (w:World):Calls Tryz.prog 13 #[.agg #[.string nm,.string ds,.int .i64 fl,.int .i64 lo,.int .i64 st,vc]] w fun e w'=>e=.returned (.tuple #[.int .i64 (wdsN ds.data.toList fl),.int .i64 (wdsE ds.data.toList)])∧Bw w w':=by
 have HD:Hid (∀ w,_):=Znu ds hd;have HH:Hid (∀ w,_):=Zb9 fl 8;have HN:Hid (wdsN ds.data.toList fl=if pdE ds.data.toList=0 then ((pdD ds.data.toList).1.length:Int)+(if hasI fl 8 then 0 else 1) else 0):=rfl;have HE:Hid (wdsE ds.data.toList=if pdE ds.data.toList=0 then 0 else 1):=rfl;have hlen:=Zny ds.data.toList;clear hd;generalize wdsN ds.data.toList fl=wn at *;generalize wdsE ds.data.toList=we at *;generalize pdE ds.data.toList=pd at *;generalize (pdD ds.data.toList).1.length=dd at *;generalize hasI fl 8=hh at *;by_cases hpd:pd=0
 ·subst hpd
  cases hh with
  | false =>
    go_enter Tryz.func13,Tryz.ntmps13;go_wp2_with (first
     | (go_at_call 33;refine ((HD.out) _).mono ?_;rintro e w1 ⟨rfl,hb1⟩;have hs1:w.heap.size<w1.heap.size:=sqS hb1;have hc2:=sqA hb1 w.heap.size 2 (.int .i64 fl))
     | (go_at_call 29;refine ((HH.out) _).mono ?_;rintro e w2 ⟨rfl,hw2⟩;rw [hw2]))
    go_ret2
    exact ⟨by rw [HN.out,HE.out];rfl,sqT hb1⟩
  | true =>
    go_enter Tryz.func13,Tryz.ntmps13;go_wp2_with (first
     | (go_at_call 33;refine ((HD.out) _).mono ?_;rintro e w1 ⟨rfl,hb1⟩;have hs1:w.heap.size<w1.heap.size:=sqS hb1;have hc2:=sqA hb1 w.heap.size 2 (.int .i64 fl))
     | (go_at_call 29;refine ((HH.out) _).mono ?_;rintro e w2 ⟨rfl,hw2⟩;rw [hw2]))
    go_ret2
    exact ⟨by rw [HN.out,HE.out];simp,sqT hb1⟩
 ·have hne:(pd != 0)=true:=by rw [bne_iff_ne];exact hpd
  go_enter Tryz.func13,Tryz.ntmps13;go_wp2_with (first
   | (go_at_call 33;refine ((HD.out) _).mono ?_;rintro e w1 ⟨rfl,hb1⟩))
  go_ret2
  exact ⟨by rw [HN.out,HE.out,if_neg hpd,if_neg hpd];rfl,sqT hb1⟩
end Go.Proofs.YtfbhjfpkhofifaaGreatDoor
