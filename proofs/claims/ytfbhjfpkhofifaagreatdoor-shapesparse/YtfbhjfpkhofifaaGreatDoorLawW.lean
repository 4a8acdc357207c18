import Derived.Test.YtfbhjfpkhofifaaGreatDoorDcA
import Derived.Test.YtfbhjfpkhofifaaGreatDoorShpG
set_option maxHeartbeats 4000000
set_option maxRecDepth 100000
namespace Go.Proofs.YtfbhjfpkhofifaaGreatDoor
open Go.RowKit
theorem Ze1 (v:Value) (ao:Option Addr) (n cap:Nat) (hv:v=.slice ao n cap) (b:Bool) (w:World):Calls Tryz.prog 47 #[v,.int .i64 n,.bool b] w fun e w'=>e=.returned (.tuple #[.int .i64 0,.bool true])∧w'=w:=by
 subst hv;go_enter Tryz.func47,Tryz.ntmps47;go_wp2
 go_ret2
 exact ⟨rfl,rfl⟩
theorem Ze0 (v:Value) (ao:Option Addr) (n cap k:Nat) (hv:v=.slice ao n cap) (hk:n<k) (_hk2:k≤100) (b:Bool) (w:World):Calls Tryz.prog 47 #[v,.int .i64 k,.bool b] w fun e w'=>e=.returned (.tuple #[.int .i64 0,.bool false])∧w'=w:=by
 subst hv;have h1:((n:Int) == (k:Int))=false:=by rw [beq_eq_false_iff_ne];omega
 have h2:(n:Int)<(k:Int):=by omega
 go_enter Tryz.func47,Tryz.ntmps47;go_wp2
 go_ret2
 exact ⟨rfl,rfl⟩
theorem Zez (v:Value) (ao:Option Addr) (n cap k:Nat) (hv:v=.slice ao n cap) (hk:k<n) (R:ByteArray) (hR:R.toList.isEmpty=true) (b:Bool) (w:World)
 (HR:∀ w',Bw w w'→Calls Tryz.prog 92 #[v,.int .i64 k] w' fun e w''=>e=.returned (.string R)∧Below w'.heap.size w' w'') :
 Calls Tryz.prog 47 #[v,.int .i64 k,.bool b] w fun e w'=>e=.returned (.tuple #[.int .i64 0,.bool false])∧Bw w w':=by
 subst hv;have h1:((n:Int) == (k:Int))=false:=by rw [beq_eq_false_iff_ne];omega
 have h2:¬ (n:Int)<(k:Int):=by omega
 have HR:Hid (∀ w':World,_→_):=HR;go_enter Tryz.func47,Tryz.ntmps47;go_wp2_with (go_at_call 92;refine (HR.out _ (Below.refl _ _)).mono ?_;rintro e w1 ⟨rfl,hb1⟩;clear HR)
 go_ret2
 exact ⟨rfl,hb1⟩
theorem Zos (v:Value) (ao:Option Addr) (n cap k:Nat) (hv:v=.slice ao n cap) (hk:k<n) (R:ByteArray) (hR:R.toList.isEmpty=false) (w:World) (f x:Int)
 (HR:∀ w',Bw w w'→Calls Tryz.prog 92 #[v,.int .i64 k] w' fun e w''=>e=.returned (.string R)∧Below w'.heap.size w' w'')
 (HP:∀ w':World,Calls Tryz.prog 93 #[.string R] w' fun e w''=>e=.returned (.tuple #[.int .i64 f,.int .i64 x])∧Below w'.heap.size w' w'') :
 Calls Tryz.prog 47 #[v,.int .i64 k,.bool true] w fun e w'=>e=.returned (.tuple #[.int .i64 f,.bool (x == 0)])∧Bw w w':=by
 subst hv;have h1:((n:Int) == (k:Int))=false:=by rw [beq_eq_false_iff_ne];omega
 have h2:¬ (n:Int)<(k:Int):=by omega
 have HR:Hid (∀ w':World,_→_):=HR;have HP:Hid (∀ w':World,_):=HP;go_enter Tryz.func47,Tryz.ntmps47;go_wp2_with (first
  | (go_at_call 92;refine (HR.out _ (Below.refl _ _)).mono ?_;rintro e w1 ⟨rfl,hb1⟩)
  | (go_at_call 92;refine (HR.out _ hb1).mono ?_;rintro e w2 ⟨rfl,hb2⟩;have B2:Hid (Bw w w2):=Below.step hb1 hb2;clear hb1 hb2 HR)
  | (go_at_call 93;refine (HP.out _).mono ?_;rintro e w3 ⟨rfl,hb3⟩;have B3:Hid (Bw w w3):=Below.step B2.out hb3;clear hb3 HP))
 go_ret2
 exact ⟨rfl,B3.out⟩
theorem Zot (v:Value) (ao:Option Addr) (n cap k:Nat) (hv:v=.slice ao n cap) (hk:k<n) (R:ByteArray) (hR:R.toList.isEmpty=false) (w:World) (f x:Int)
 (HR:∀ w',Bw w w'→Calls Tryz.prog 92 #[v,.int .i64 k] w' fun e w''=>e=.returned (.string R)∧Below w'.heap.size w' w'')
 (HP:∀ w':World,Calls Tryz.prog 94 #[.string R] w' fun e w''=>e=.returned (.tuple #[.int .i64 f,.int .i64 x])∧Below w'.heap.size w' w'') :
 Calls Tryz.prog 47 #[v,.int .i64 k,.bool false] w fun e w'=>e=.returned (.tuple #[.int .i64 f,.bool (x == 0)])∧Bw w w':=by
 subst hv;have h1:((n:Int) == (k:Int))=false:=by rw [beq_eq_false_iff_ne];omega
 have h2:¬ (n:Int)<(k:Int):=by omega
 have HR:Hid (∀ w':World,_→_):=HR;have HP:Hid (∀ w':World,_):=HP;go_enter Tryz.func47,Tryz.ntmps47;go_wp2_with (first
  | (go_at_call 92;refine (HR.out _ (Below.refl _ _)).mono ?_;rintro e w1 ⟨rfl,hb1⟩)
  | (go_at_call 92;refine (HR.out _ hb1).mono ?_;rintro e w2 ⟨rfl,hb2⟩;have B2:Hid (Bw w w2):=Below.step hb1 hb2;clear hb1 hb2 HR)
  | (go_at_call 94;refine (HP.out _).mono ?_;rintro e w3 ⟨rfl,hb3⟩;have B3:Hid (Bw w w3):=Below.step B2.out hb3;clear hb3 HP))
 go_ret2
 exact ⟨rfl,B3.out⟩
theorem Zka (v:Value) (ls:List (List UInt8)) (k:Nat) (hk:k≤100) (W:World) (h:IsStrs W v ls) (hgl:(gl (ls.drop k)).length≤1000000) :
 Calls Tryz.prog 47 #[v,.int .i64 k,.bool false] W fun e w'=>(∃ f,e=.returned (.tuple #[.int .i64 f,.bool (flB clsP ls k)])∧(flB clsP ls k=true→f=flN clsP ls k))∧Bw W w':=by
 have h0:=h;obtain ⟨ao,cap,hv,_⟩:=h0;rcases Nat.lt_trichotomy ls.length k with hl|hl|hl
 ·have e1:flB clsP ls k=false:=by rw [flB,decide_eq_false (by omega),show (ls.length == k)=false by rw [beq_eq_false_iff_ne];omega];rfl
  rw [e1];exact (Ze0 v ao ls.length cap k hv hl hk false W).mono fun e w' ⟨h1,h2⟩=>⟨⟨0,h1,fun h=>by cases h⟩,by rw [h2];exact Below.refl _ _⟩
 ·have e1:flB clsP ls k=true:=by rw [flB,show (ls.length == k)=true by rw [beq_iff_eq];exact hl];rfl
  have e2:flN clsP ls k=0:=by rw [flN,show (ls.length == k)=true by rw [beq_iff_eq];exact hl];rfl
  rw [e1,e2];have:=Ze1 v ao ls.length cap hv false W;rw [hl] at this;exact this.mono fun e w' ⟨h1,h2⟩=>⟨⟨0,h1,fun _=>rfl⟩,by rw [h2];exact Below.refl _ _⟩
 ·have e0:(ls.length == k)=false:=by rw [beq_eq_false_iff_ne];omega
  have e1:flB clsP ls k=(!(gl (ls.drop k) == [])&&(parX clsP (gl (ls.drop k)) == 0)):=by rw [flB,decide_eq_true hl,e0];rfl
  have e2:flN clsP ls k=parF clsP (gl (ls.drop k)):=by rw [flN,e0];rfl
  have HR:=fun (w':World) (hb:Bw W w')=>Zg7 v ls k w' (h.keep hb) hl hgl
  cases hq:(gl (ls.drop k) == []) with
  | true =>
    rw [hq] at e1;rw [e1];exact (Zez v ao ls.length cap k hv hl _ (by rw [Lib.toList_data,eq_of_beq hq];rfl) false W HR).mono fun e w' ⟨h1,h2⟩=>⟨⟨0,h1,fun h=>by cases h⟩,h2⟩
  | false =>
    rw [hq] at e1;rw [e1,e2];have HP:=fun w'=>Zdc ⟨(gl (ls.drop k)).toArray⟩ (by rw [Zk];omega) w';simp only at HP;exact (Zot v ao ls.length cap k hv hl _ (by rw [Lib.toList_data];cases hc:gl (ls.drop k) with|nil=>rw [hc] at hq;cases hq|cons x r=>rfl) W _ _ HR HP).mono fun e w' ⟨h1,h2⟩=>⟨⟨_,h1,fun _=>rfl⟩,h2⟩
theorem Zdp (v:Value) (ls:List (List UInt8)) (k:Nat) (hk:k≤100) (W:World) (h:IsStrs W v ls) (hgl:(gl (ls.drop k)).length≤1000000) :
 Calls Tryz.prog 47 #[v,.int .i64 k,.bool true] W fun e w'=>(∃ f,e=.returned (.tuple #[.int .i64 f,.bool (flB mthP ls k)])∧(flB mthP ls k=true→f=flN mthP ls k))∧Bw W w':=by
 have h0:=h;obtain ⟨ao,cap,hv,_⟩:=h0;rcases Nat.lt_trichotomy ls.length k with hl|hl|hl
 ·have e1:flB mthP ls k=false:=by rw [flB,decide_eq_false (by omega),show (ls.length == k)=false by rw [beq_eq_false_iff_ne];omega];rfl
  rw [e1];exact (Ze0 v ao ls.length cap k hv hl hk true W).mono fun e w' ⟨h1,h2⟩=>⟨⟨0,h1,fun h=>by cases h⟩,by rw [h2];exact Below.refl _ _⟩
 ·have e1:flB mthP ls k=true:=by rw [flB,show (ls.length == k)=true by rw [beq_iff_eq];exact hl];rfl
  have e2:flN mthP ls k=0:=by rw [flN,show (ls.length == k)=true by rw [beq_iff_eq];exact hl];rfl
  rw [e1,e2];have:=Ze1 v ao ls.length cap hv true W;rw [hl] at this;exact this.mono fun e w' ⟨h1,h2⟩=>⟨⟨0,h1,fun _=>rfl⟩,by rw [h2];exact Below.refl _ _⟩
 ·have e0:(ls.length == k)=false:=by rw [beq_eq_false_iff_ne];omega
  have e1:flB mthP ls k=(!(gl (ls.drop k) == [])&&(parX mthP (gl (ls.drop k)) == 0)):=by rw [flB,decide_eq_true hl,e0];rfl
  have e2:flN mthP ls k=parF mthP (gl (ls.drop k)):=by rw [flN,e0];rfl
  have HR:=fun (w':World) (hb:Bw W w')=>Zg7 v ls k w' (h.keep hb) hl hgl
  cases hq:(gl (ls.drop k) == []) with
  | true =>
    rw [hq] at e1;rw [e1];exact (Zez v ao ls.length cap k hv hl _ (by rw [Lib.toList_data,eq_of_beq hq];rfl) true W HR).mono fun e w' ⟨h1,h2⟩=>⟨⟨0,h1,fun h=>by cases h⟩,h2⟩
  | false =>
    rw [hq] at e1;rw [e1,e2];have HP:=fun w'=>Zcm ⟨(gl (ls.drop k)).toArray⟩ (by rw [Zk];omega) w';simp only at HP;exact (Zos v ao ls.length cap k hv hl _ (by rw [Lib.toList_data];cases hc:gl (ls.drop k) with|nil=>rw [hc] at hq;cases hq|cons x r=>rfl) W _ _ HR HP).mono fun e w' ⟨h1,h2⟩=>⟨⟨_,h1,fun _=>rfl⟩,h2⟩
theorem Zis (c:Cls) (vi vm:Value) (w:World) (hi:IsStrs w vi c.ifs) (hm:IsMths w vm c.ms) (hw:ClsW c) :
 Calls Tryz.prog 9 #[clsV c vi vm] w fun e w'=>e=.returned (.int .i64 (clsE c))∧Bw w w' :=
 Ziy c vi vm w hi hm hw.1 hw.2.1 hw.2.2.1 hw.ok
theorem Zls (i:Ins):Za4 i i=true:=by simp [Za4,Yn]
theorem Zlr (l:List Ins):Jf l l=true:=by
 induction l with
 | nil=>rfl
 | cons x l ih=>rw [Jf,Zls,ih];rfl
theorem Zlq (m:Mth):Znf m m=true:=by simp [Znf,Zlr]
theorem rSame_eq (c:Cls) (vi vm ui um:Value) (W:World) (hi:IsStrs W vi c.ifs) (hm:IsMths W vm c.ms) (ki:IsStrs W ui c.ifs) (km:IsMths W um c.ms) :
 Calls Tryz.prog 18 #[clsV c vi vm,clsV c ui um] W fun e w'=>e=.returned (.bool true)∧Bw W w':=by
 have HS:Hid (∀ w',Bw W w'→Calls Tryz.prog 50 #[vi,ui] w' fun e w''=>e=.returned (.bool true)∧Below w'.heap.size w' w''):=fun w' h=>by
  have:=same_all vi ui c.ifs c.ifs w' (hi.keep h) (ki.keep h);rw [decide_eq_true rfl] at this;exact this
 have HM:Hid (∀ (m:Mth) (va vb:Value) (w':World),Bw W w'→IsInss W va m.code→IsInss W vb m.code→Calls Tryz.prog 51 #[.agg #[.string m.nm,.string m.ds,.int .i64 m.fl,.int .i64 m.lo,.int .i64 m.st,va],.agg #[.string m.nm,.string m.ds,.int .i64 m.fl,.int .i64 m.lo,.int .i64 m.st,vb]] w' fun e w''=>e=.returned (.bool true)∧Below w'.heap.size w' w''):=fun m va vb w' h h1 h2=>by
  have:=Zdb m m va vb w' (h1.keep h) (h2.keep h);rw [Zlq] at this;exact this
 obtain ⟨ai,capi,rfl,_,_,_⟩:=hi;obtain ⟨am,capm,rfl,m1,m2,m3⟩:=hm;obtain ⟨bi,copi,rfl,_,_,_⟩:=ki;obtain ⟨bm,copm,rfl,n1,n2,n3⟩:=km;have HMA:Hid _:=m3;have HNA:Hid _:=n3;unfold maxLen at m2 n2;clear m3 n3;obtain ⟨nm,su,ifs,fl,ld,ms⟩:=c;simp only [clsV] at *;obtain ⟨M,hM⟩:∃ M,ms.length=M:=⟨_,rfl⟩;rw [hM] at m1 n1 ⊢;have HL:Hid (ms.length=M):=hM;clear hM;generalize ifs.length=K at *;have k1:(fl != fl)=false:=by simp
 have k2:(ld != ld)=false:=by simp
 have k3:(nm.toList == nm.toList)=true:=by simp
 have k4:(su.toList == su.toList)=true:=by simp
 have k5:((M:Int) != (M:Int))=false:=by simp
 obtain ⟨Wc,hWc⟩:∃ x,x=(W.alloc (.cells #[.string nm,.string su,.slice ai K capi,.int .i64 fl,.int .i64 ld,.slice am M capm] 25)).alloc (.cells #[.string nm,.string su,.slice bi K copi,.int .i64 fl,.int .i64 ld,.slice bm M copm] 25):=⟨_,rfl⟩;have HWc:Hid (Bw W Wc):=by rw [hWc];exact ((Below.refl _ _).alloc (Nat.le_refl _) _).alloc (by simp) _
 have HCc:Hid (CB Wc W.heap.size nm su (.slice ai K capi) fl ld (.slice am M capm)):=by rw [hWc];exact ⟨by simp;omega,by simp [go_sem],by simp [go_sem],by simp [go_sem],by simp [go_sem],by simp [go_sem],by simp [go_sem]⟩
 have HCd:Hid (CB Wc (W.heap.size+1) nm su (.slice bi K copi) fl ld (.slice bm M copm)):=by rw [hWc];exact ⟨by simp,by simp [go_sem],by simp [go_sem],by simp [go_sem],by simp [go_sem],by simp [go_sem],by simp [go_sem]⟩
 have HWE:Hid (Wc=(W.alloc (.cells #[.string nm,.string su,.slice ai K capi,.int .i64 fl,.int .i64 ld,.slice am M capm] 25)).alloc (.cells #[.string nm,.string su,.slice bi K copi,.int .i64 fl,.int .i64 ld,.slice bm M copm] 25)):=hWc;clear hWc;go_enter Tryz.func18,Tryz.ntmps18;go_wp2_with (go_at_call 50;rw [← HWE.out];refine (HS.out _ HWc.out).mono ?_;rintro e w1 ⟨rfl,hb1⟩;have B1:Hid (Bw Wc w1):=hb1;obtain ⟨g9,g0,g1,g2,g3,g4,g5⟩:=HCc.out.keep hb1;obtain ⟨f9,f0,f1,f2,f3,f4,f5⟩:=HCd.out.keep hb1;clear hb1 HWE HS)
 clear g0 g1 g2 g3 g4 g5 g9 f0 f1 f2 f3 f4 f5 f9;go_loopw [5] (fun iv wr=>∃ k:Nat,iv=.int .i64 k∧k≤M∧Hid (Bw Wc wr)) (fun iv _=>M - (intOf iv).toNat)
 case atStart=>exact ⟨0,rfl,Nat.zero_le _,B1⟩
 case round =>
  obtain ⟨k,rfl,hk,hb⟩:=hrel;clear B1;obtain ⟨g9,g0,g1,g2,g3,g4,g5⟩:=HCc.out.keep hb.out;obtain ⟨f9,f0,f1,f2,f3,f4,f5⟩:=HCd.out.keep hb.out;by_cases hlt:k<M
  ·obtain ⟨bk,o,hao,hbk,hc⟩:=HMA.out (by intro e;have:=HL.out;rw [e] at this;simp at this;omega);obtain ⟨dk,q,hdo,hdk,hd⟩:=HNA.out (by intro e;have:=HL.out;rw [e] at this;simp at this;omega);obtain ⟨x,hx⟩:∃ x,ms[k]?=some x:=⟨_,List.getElem?_eq_getElem (by rw [HL.out];exact hlt)⟩;subst hao hdo;have hcx:=hc k x hx;have hdx:=hd k x hx;have HM2:=HM.out x;obtain ⟨xn,xd,xf,xl,xs,xc⟩:=x;obtain ⟨p0,p1,p2,p3,p4,vc,p5,hI⟩:=hcx;obtain ⟨r0,r1,r2,r3,r4,uc,r5,hJ⟩:=hdx;simp only at p0 p1 p2 p3 p4 p5 hI r0 r1 r2 r3 r4 r5 hJ HM2;have HM3:Hid (∀ w',Bw W w'→_):=fun w' h=>HM2 vc uc w' h hI hJ;obtain ⟨va,vcap,rfl,v1,v2,_⟩:=hI;obtain ⟨ua,ucap,rfl,u1,u2,_⟩:=hJ;have keepc:∀ (bk j:Nat) (v:Value),bk<W.heap.size→W.cell? ⟨bk,j,none⟩=some v→wr.cell? ⟨bk,j,none⟩=some v:=fun bk j v hbk h=>(hb.out.cell (p:=⟨bk,j,none⟩) (Nat.lt_of_lt_of_le hbk HWc.out.size)).trans ((HWc.out.cell (p:=⟨bk,j,none⟩) hbk).trans h);replace p0:=keepc bk _ _ hbk p0;replace p1:=keepc bk _ _ hbk p1;replace p2:=keepc bk _ _ hbk p2;replace p3:=keepc bk _ _ hbk p3;replace p4:=keepc bk _ _ hbk p4;replace p5:=keepc bk _ _ hbk p5;replace r0:=keepc dk _ _ hdk r0;replace r1:=keepc dk _ _ hdk r1;replace r2:=keepc dk _ _ hdk r2;replace r3:=keepc dk _ _ hdk r3;replace r4:=keepc dk _ _ hdk r4;replace r5:=keepc dk _ _ hdk r5;generalize xc.length=XL at *;have hbk2:bk<wr.heap.size:=Nat.lt_of_lt_of_le hbk (Nat.le_trans HWc.out.size hb.out.size);have hdk2:dk<wr.heap.size:=Nat.lt_of_lt_of_le hdk (Nat.le_trans HWc.out.size hb.out.size);clear keepc hc hd hx HMA HNA HM HM2;go_wp2
   go_region_held3 (fun w'=>w'.cell? ⟨W.heap.size,5,none⟩=some (.slice (some ⟨bk,o,none⟩) M capm)∧w'.cell? ⟨W.heap.size+1,5,none⟩=some (.slice (some ⟨dk,q,none⟩) M copm)∧w'.cell? ⟨bk,o+k * 6,none⟩=some (.string xn)∧w'.cell? ⟨bk,o+k * 6+1,none⟩=some (.string xd)∧w'.cell? ⟨bk,o+k * 6+2,none⟩=some (.int .i64 xf)∧w'.cell? ⟨bk,o+k * 6+3,none⟩=some (.int .i64 xl)∧w'.cell? ⟨bk,o+k * 6+4,none⟩=some (.int .i64 xs)∧w'.cell? ⟨bk,o+k * 6+5,none⟩=some (.slice va XL vcap)∧w'.cell? ⟨dk,q+k * 6,none⟩=some (.string xn)∧w'.cell? ⟨dk,q+k * 6+1,none⟩=some (.string xd)∧w'.cell? ⟨dk,q+k * 6+2,none⟩=some (.int .i64 xf)∧w'.cell? ⟨dk,q+k * 6+3,none⟩=some (.int .i64 xl)∧w'.cell? ⟨dk,q+k * 6+4,none⟩=some (.int .i64 xs)∧w'.cell? ⟨dk,q+k * 6+5,none⟩=some (.slice ua XL ucap)) (go_keep)
    (first|(go_at_call 51;refine (HM3.out _ (Below.step HWc.out hb.out.drew)).mono ?_;rintro e w3 ⟨rfl,hb3⟩;have B3:Hid (Bw Wc w3):=Below.step hb.out.drew hb3;have kp:∀ (bb j:Nat) (v:Value),bb<wr.heap.size→wr.cell? ⟨bb,j,none⟩=some v→w3.cell? ⟨bb,j,none⟩=some v:=fun bb j v hl h=>(hb3.cell (p:=⟨bb,j,none⟩) hl).trans h;replace g5:=kp _ _ _ g9 g5;replace f5:=kp _ _ _ f9 f5;replace p0:=kp _ _ _ hbk2 p0;replace p1:=kp _ _ _ hbk2 p1;replace p2:=kp _ _ _ hbk2 p2;replace p3:=kp _ _ _ hbk2 p3;replace p4:=kp _ _ _ hbk2 p4;replace p5:=kp _ _ _ hbk2 p5;replace r0:=kp _ _ _ hdk2 r0;replace r1:=kp _ _ _ hdk2 r1;replace r2:=kp _ _ _ hdk2 r2;replace r3:=kp _ _ _ hdk2 r3;replace r4:=kp _ _ _ hdk2 r4;replace r5:=kp _ _ _ hdk2 r5;clear kp hb3 HM3))
   go_wp2;go_roundw
   case rel=>exact ⟨k+1,by go_num,by omega,B3⟩
   case measure=>simp [intOf];omega
  ·have e:k=M:=by omega
   subst e;clear HMA HNA HM;go_wp2;go_ret
   exact ⟨rfl,Below.step HWc.out hb.out⟩
def c0:Cls:=⟨⟨#[65]⟩,⟨#[79,98,106,101,99,116]⟩,[],0,0,[]⟩
theorem c0_sound:clsB c0=true:=by decide +kernel
theorem c0_text:clsT c0=[99,108,97,115,115,32,65,10,115,117,112,101,114,32,79,98,106,101,99,116,10,102,108,97,103,115,10,108,111,97,100,101,114,32,48,10,101,110,100,10]:=by decide +kernel
theorem c0_w:ClsW c0:=⟨by decide +kernel,by decide +kernel,fun p hp=>by simp [c0] at hp,by decide,by decide,fun m hm=>by simp [c0] at hm⟩
theorem Zo9 (w:World) (hG:GAll w):Calls Tryz.prog 7 #[] w fun e w'=>e=.returned (.bool true)∧Bw w w':=by
 have HP:Hid (∀ w,GAll w→Calls Tryz.prog 14 #[.agg #[.string ⟨#[65]⟩,.string ⟨#[79,98,106,101,99,116]⟩,.slice none 0 0,.int .i64 0,.int .i64 0,.slice none 0 0]] w fun e w'=>e=.returned (.tuple #[.string ⟨#[99,108,97,115,115,32,65,10,115,117,112,101,114,32,79,98,106,101,99,116,10,102,108,97,103,115,10,108,111,97,100,101,114,32,48,10,101,110,100,10]⟩,.int .i64 0])∧Bw w w'):=fun w h=>by
  have:=Zl0 c0 (.slice none 0 0) (.slice none 0 0) w ⟨none,0,rfl,Nat.le_refl _,by unfold maxLen;omega,fun h=>absurd rfl h⟩ ⟨none,0,rfl,Nat.le_refl _,by unfold maxLen;omega,fun h=>absurd rfl h⟩ c0_w c0_sound h;rw [c0_text] at this;exact this
 have HG:Hid (GAll w):=hG;clear hG;go_enter Tryz.func7,Tryz.ntmps7;go_wp2_with (go_at_call 14;refine (HP.out _ HG.out).mono ?_;rintro e w1 ⟨rfl,hb1⟩)
 go_ret
 exact ⟨rfl,hb1⟩
end Go.Proofs.YtfbhjfpkhofifaaGreatDoor
