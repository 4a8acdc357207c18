import Derived.Test.YtkoogmegdfpopaaGreatShpG
set_option maxRecDepth 100000
namespace Go.Proofs.YtkoogmegdfpopaaGreat
open Go.RowKit
theorem Zgb (i:Ins):Qm i i=true:=by simp [Qm,Z2]
theorem Zga (l:List Ins):Xc l l=true:=by
 induction l with
 | nil=>rfl
 | cons x l ih=>rw [Xc,Zgb,ih];rfl
theorem Zf9 (m:Mth):Zho m m=true:=by simp [Zho,Zga]
set_option maxHeartbeats 4000000 in
theorem Zb5 (c:Cls) (vi vm ui um:Value) (W:World) (hi:IsStrs W vi c.ifs) (hm:IsMths W vm c.ms) (ki:IsStrs W ui c.ifs) (km:IsMths W um c.ms) :
 Calls Tryz.prog 14 #[clsV c vi vm,clsV c ui um] W fun e w'=>e=.returned (.bool true)∧Bw W w':=by
 have HS:Hid (∀ w',Bw W w'→Calls Tryz.prog 39 #[vi,ui] w' fun e w''=>e=.returned (.bool true)∧Below w'.heap.size w' w''):=fun w' h=>by
  have:=same_all vi ui c.ifs c.ifs w' (hi.keep h) (ki.keep h)
  rw [decide_eq_true rfl] at this
  exact this
 have HM:Hid (∀ (m:Mth) (va vb:Value) (w':World),Bw W w'→IsInss W va m.code→IsInss W vb m.code→Calls Tryz.prog 40 #[.agg #[.string m.nm,.string m.ds,.int .i64 m.fl,.int .i64 m.lo,.int .i64 m.st,va],.agg #[.string m.nm,.string m.ds,.int .i64 m.fl,.int .i64 m.lo,.int .i64 m.st,vb]] w' fun e w''=>e=.returned (.bool true)∧Below w'.heap.size w' w''):=fun m va vb w' h h1 h2=>by
  have:=Zai m m va vb w' (h1.keep h) (h2.keep h)
  rw [Zf9] at this
  exact this
 obtain ⟨ai,capi,rfl,_,_,_⟩:=hi
 obtain ⟨am,capm,rfl,m1,m2,m3⟩:=hm
 obtain ⟨bi,copi,rfl,_,_,_⟩:=ki
 obtain ⟨bm,copm,rfl,n1,n2,n3⟩:=km
 have HMA:Hid _:=m3
 have HNA:Hid _:=n3
 unfold maxLen at m2 n2
 clear m3 n3
 obtain ⟨nm,su,ifs,fl,ld,ms⟩:=c
 simp only [clsV] at *
 obtain ⟨M,hM⟩:∃ M,ms.length=M:=⟨_,rfl⟩
 rw [hM] at m1 n1 ⊢
 have HL:Hid (ms.length=M):=hM
 clear hM
 generalize ifs.length=K at *
 have k1:(fl != fl)=false:=by simp
 have k2:(ld != ld)=false:=by simp
 have k3:(nm.toList == nm.toList)=true:=by simp
 have k4:(su.toList == su.toList)=true:=by simp
 have k5:((M:Int) != (M:Int))=false:=by simp
 obtain ⟨Wc,hWc⟩:∃ x,x=(W.alloc (.cells #[.string nm,.string su,.slice ai K capi,.int .i64 fl,.int .i64 ld,.slice am M capm] 33)).alloc (.cells #[.string nm,.string su,.slice bi K copi,.int .i64 fl,.int .i64 ld,.slice bm M copm] 33):=⟨_,rfl⟩
 have HWc:Hid (Bw W Wc):=by rw [hWc];exact ((Below.refl _ _).alloc (Nat.le_refl _) _).alloc (by simp) _
 have HCc:Hid (CB Wc W.heap.size nm su (.slice ai K capi) fl ld (.slice am M capm)):=by rw [hWc];exact ⟨by simp;omega,by simp [go_sem],by simp [go_sem],by simp [go_sem],by simp [go_sem],by simp [go_sem],by simp [go_sem]⟩
 have HCd:Hid (CB Wc (W.heap.size+1) nm su (.slice bi K copi) fl ld (.slice bm M copm)):=by rw [hWc];exact ⟨by simp,by simp [go_sem],by simp [go_sem],by simp [go_sem],by simp [go_sem],by simp [go_sem],by simp [go_sem]⟩
 have HWE:Hid (Wc=(W.alloc (.cells #[.string nm,.string su,.slice ai K capi,.int .i64 fl,.int .i64 ld,.slice am M capm] 33)).alloc (.cells #[.string nm,.string su,.slice bi K copi,.int .i64 fl,.int .i64 ld,.slice bm M copm] 33)):=hWc
 clear hWc
 go_enter Tryz.func14,Tryz.ntmps14
 go_wp2_with (go_at_call 39;rw [← HWE.out];refine (HS.out _ HWc.out).mono ?_;rintro e w1 ⟨rfl,hb1⟩;have B1:Hid (Bw Wc w1):=hb1;obtain ⟨g9,g0,g1,g2,g3,g4,g5⟩:=HCc.out.keep hb1;obtain ⟨f9,f0,f1,f2,f3,f4,f5⟩:=HCd.out.keep hb1;clear hb1 HWE HS)
 clear g0 g1 g2 g3 g4 g5 g9 f0 f1 f2 f3 f4 f5 f9
 go_loopw [5] (fun iv wr=>∃ k:Nat,iv=.int .i64 k∧k≤M∧Hid (Bw Wc wr)) (fun iv _=>M - (intOf iv).toNat)
 case atStart=>exact ⟨0,rfl,Nat.zero_le _,B1⟩
 case round =>
  obtain ⟨k,rfl,hk,hb⟩:=hrel
  clear B1
  obtain ⟨g9,g0,g1,g2,g3,g4,g5⟩:=HCc.out.keep hb.out
  obtain ⟨f9,f0,f1,f2,f3,f4,f5⟩:=HCd.out.keep hb.out
  by_cases hlt:k<M
  ·obtain ⟨bk,o,hao,hbk,hc⟩:=HMA.out (by intro e;have:=HL.out;rw [e] at this;simp at this;omega)
   obtain ⟨dk,q,hdo,hdk,hd⟩:=HNA.out (by intro e;have:=HL.out;rw [e] at this;simp at this;omega)
   obtain ⟨x,hx⟩:∃ x,ms[k]?=some x:=⟨_,List.getElem?_eq_getElem (by rw [HL.out];exact hlt)⟩
   subst hao hdo
   have hcx:=hc k x hx
   have hdx:=hd k x hx
   have HM2:=HM.out x
   obtain ⟨xn,xd,xf,xl,xs,xc⟩:=x
   obtain ⟨p0,p1,p2,p3,p4,vc,p5,hI⟩:=hcx
   obtain ⟨r0,r1,r2,r3,r4,uc,r5,hJ⟩:=hdx
   simp only at p0 p1 p2 p3 p4 p5 hI r0 r1 r2 r3 r4 r5 hJ HM2
   have HM3:Hid (∀ w',Bw W w'→_):=fun w' h=>HM2 vc uc w' h hI hJ
   obtain ⟨va,vcap,rfl,v1,v2,_⟩:=hI
   obtain ⟨ua,ucap,rfl,u1,u2,_⟩:=hJ
   have keepc:∀ (bk j:Nat) (v:Value),bk<W.heap.size→W.cell? ⟨bk,j,none⟩=some v→wr.cell? ⟨bk,j,none⟩=some v:=fun bk j v hbk h=>(hb.out.cell (p:=⟨bk,j,none⟩) (Nat.lt_of_lt_of_le hbk HWc.out.size)).trans ((HWc.out.cell (p:=⟨bk,j,none⟩) hbk).trans h)
   replace p0:=keepc bk _ _ hbk p0
   replace p1:=keepc bk _ _ hbk p1
   replace p2:=keepc bk _ _ hbk p2
   replace p3:=keepc bk _ _ hbk p3
   replace p4:=keepc bk _ _ hbk p4
   replace p5:=keepc bk _ _ hbk p5
   replace r0:=keepc dk _ _ hdk r0
   replace r1:=keepc dk _ _ hdk r1
   replace r2:=keepc dk _ _ hdk r2
   replace r3:=keepc dk _ _ hdk r3
   replace r4:=keepc dk _ _ hdk r4
   replace r5:=keepc dk _ _ hdk r5
   generalize xc.length=XL at *
   have hbk2:bk<wr.heap.size:=Nat.lt_of_lt_of_le hbk (Nat.le_trans HWc.out.size hb.out.size)
   have hdk2:dk<wr.heap.size:=Nat.lt_of_lt_of_le hdk (Nat.le_trans HWc.out.size hb.out.size)
   clear keepc hc hd hx HMA HNA HM HM2
   go_wp2
   go_region_held3 (fun w'=>w'.cell? ⟨W.heap.size,5,none⟩=some (.slice (some ⟨bk,o,none⟩) M capm)∧w'.cell? ⟨W.heap.size+1,5,none⟩=some (.slice (some ⟨dk,q,none⟩) M copm)∧w'.cell? ⟨bk,o+k * 6,none⟩=some (.string xn)∧w'.cell? ⟨bk,o+k * 6+1,none⟩=some (.string xd)∧w'.cell? ⟨bk,o+k * 6+2,none⟩=some (.int .i64 xf)∧w'.cell? ⟨bk,o+k * 6+3,none⟩=some (.int .i64 xl)∧w'.cell? ⟨bk,o+k * 6+4,none⟩=some (.int .i64 xs)∧w'.cell? ⟨bk,o+k * 6+5,none⟩=some (.slice va XL vcap)∧w'.cell? ⟨dk,q+k * 6,none⟩=some (.string xn)∧w'.cell? ⟨dk,q+k * 6+1,none⟩=some (.string xd)∧w'.cell? ⟨dk,q+k * 6+2,none⟩=some (.int .i64 xf)∧w'.cell? ⟨dk,q+k * 6+3,none⟩=some (.int .i64 xl)∧w'.cell? ⟨dk,q+k * 6+4,none⟩=some (.int .i64 xs)∧w'.cell? ⟨dk,q+k * 6+5,none⟩=some (.slice ua XL ucap)) (go_keep)
    (first|(go_at_call 40;refine (HM3.out _ (Below.step HWc.out hb.out.drew)).mono ?_;rintro e w3 ⟨rfl,hb3⟩;have B3:Hid (Bw Wc w3):=Below.step hb.out.drew hb3;have kp:∀ (bb j:Nat) (v:Value),bb<wr.heap.size→wr.cell? ⟨bb,j,none⟩=some v→w3.cell? ⟨bb,j,none⟩=some v:=fun bb j v hl h=>(hb3.cell (p:=⟨bb,j,none⟩) hl).trans h;replace g5:=kp _ _ _ g9 g5;replace f5:=kp _ _ _ f9 f5;replace p0:=kp _ _ _ hbk2 p0;replace p1:=kp _ _ _ hbk2 p1;replace p2:=kp _ _ _ hbk2 p2;replace p3:=kp _ _ _ hbk2 p3;replace p4:=kp _ _ _ hbk2 p4;replace p5:=kp _ _ _ hbk2 p5;replace r0:=kp _ _ _ hdk2 r0;replace r1:=kp _ _ _ hdk2 r1;replace r2:=kp _ _ _ hdk2 r2;replace r3:=kp _ _ _ hdk2 r3;replace r4:=kp _ _ _ hdk2 r4;replace r5:=kp _ _ _ hdk2 r5;clear kp hb3 HM3))
   go_wp2
   go_roundw
   case rel=>exact ⟨k+1,by go_num,by omega,B3⟩
   case measure=>simp [intOf];omega
  ·have e:k=M:=by omega
   subst e
   clear HMA HNA HM
   go_wp2
   go_ret
   exact ⟨rfl,Below.step HWc.out hb.out⟩
end Go.Proofs.YtkoogmegdfpopaaGreat
