import Derived.Test.YtkoogmegdfpopaaGreatSoD
set_option maxHeartbeats 2000000
set_option maxRecDepth 100000
namespace Go.Proofs.YtkoogmegdfpopaaGreat
open Go.RowKit
def MthFl (m:Mth):Prop:=-9223372036854775808≤m.fl∧m.fl≤9223372036854775807
def mtdB (fl:Int) (ms:List Mth):Bool:=!decide (40<(ms.length:Int))&&Yv (hasI fl 512) ms ms 0
theorem Jw (c:Cls) (vi vm:Value) (w:World) (hi:IsStrs w vi c.ifs) (hm:IsMths w vm c.ms) (hmo:∀ m∈c.ms,MthOK m) (hmf:∀ m∈c.ms,MthFl m) :
 Calls Tryz.prog 52 #[clsV c vi vm] w fun e w'=>e=.returned (.bool (mtdB c.fl c.ms))∧Bw w w':=by
 obtain ⟨nm,su,ifs,fl,ld,ms⟩:=c
 simp only at hi hm hmo hmf ⊢
 have HM:Hid (IsMths w vm ms):=hm
 have HMO:Hid _:=hmo
 have HMF:Hid _:=hmf
 have hh5:(bits .and .i64 fl 512 != 0)=hasI fl 512:=rfl
 have HR:Hid (mtdB fl ms=(!decide (40<(ms.length:Int))&&Yv (hasI fl 512) ms ms 0)):=rfl
 obtain ⟨ai,capi,rfl,i1,i2,_⟩:=hi
 obtain ⟨am,capm,rfl,m1,m2,m3⟩:=hm
 have HMA:Hid _:=m3
 clear m3
 unfold maxLen at i2 m2
 unfold clsV
 simp only
 obtain ⟨K,hK⟩:∃ K,ifs.length=K:=⟨_,rfl⟩
 obtain ⟨M,hM⟩:∃ M,ms.length=M:=⟨_,rfl⟩
 rw [hK] at i1 ⊢
 rw [hM] at m1 HM HR ⊢
 have HL:Hid (ms.length=M):=hM
 clear hmo hmf hK hM
 generalize mtdB fl ms=z at *
 generalize hasI fl 512=hh at *
 by_cases r1:40<(M:Int)
 ·go_enter Tryz.func52,Tryz.ntmps52
  go_wp2
  go_ret
  exact ⟨Za (by rw [HR.out];simp [r1]),(Below.refl _ _).alloc (Nat.le_refl _) _⟩
 have HR2:Hid (z=Yv hh ms ms 0):=by rw [Hid,HR.out];simp [r1]
 clear HR
 have HC0:Hid (CB (w.alloc (.cells #[.string nm,.string su,.slice ai K capi,.int .i64 fl,.int .i64 ld,.slice am M capm] 33)) w.heap.size nm su (.slice ai K capi) fl ld (.slice am M capm)):=⟨by simp,by simp [go_sem],by simp [go_sem],by simp [go_sem],by simp [go_sem],by simp [go_sem],by simp [go_sem]⟩
 go_enter Tryz.func52,Tryz.ntmps52
 go_wp2
 go_loopw [12] (fun iv wr=>∃ k:Nat,iv=.int .i64 k∧k≤M∧Hid (CB wr w.heap.size nm su (.slice ai K capi) fl ld (.slice am M capm))∧Hid (Bw w wr)∧Hid (Yv hh ms (ms.drop k) k=Yv hh ms ms 0)) (fun iv _=>M - (intOf iv).toNat)
 case atStart=>exact ⟨0,rfl,Nat.zero_le _,HC0,(Below.refl _ _).alloc (Nat.le_refl _) _,rfl⟩
 case round =>
  obtain ⟨k,rfl,hk,hcb,hb,hs⟩:=hrel
  obtain ⟨g0,d0,d1,d2,d3,d4,d5⟩:=hcb.out
  by_cases hlt:k<M
  ·obtain ⟨bk,o,hao,hbk,hc⟩:=HMA.out (by intro e;have:=HL.out;rw [e] at this;simp at this;omega)
   obtain ⟨x,hx⟩:∃ x,ms[k]?=some x:=⟨_,List.getElem?_eq_getElem (by rw [HL.out];exact hlt)⟩
   subst hao
   have hst:=Zfm hh ms k x hx
   rw [hs.out] at hst
   obtain ⟨k1,k2,k3⟩:=HMO.out x (List.mem_of_getElem? hx)
   have k4:=HMF.out x (List.mem_of_getElem? hx)
   have hcx:=hc k x hx
   obtain ⟨xn,xd,xf,xl,xs,xc⟩:=x
   obtain ⟨p0,p1,p2,p3,p4,vc,p5,hI⟩:=hcx
   unfold MthFl at k4
   simp only at p0 p1 p2 p3 p4 p5 hI k1 k2 k3 k4 hst
   have HI2:Hid (IsInss w vc xc):=hI
   obtain ⟨va,vcap,rfl,_,_,_⟩:=hI
   replace p0:=(hb.out.cell hbk).trans p0
   replace p1:=(hb.out.cell hbk).trans p1
   replace p2:=(hb.out.cell hbk).trans p2
   replace p3:=(hb.out.cell hbk).trans p3
   replace p4:=(hb.out.cell hbk).trans p4
   replace p5:=(hb.out.cell hbk).trans p5
   have HS:Hid (∀ w':World,Bw w w'→Calls Tryz.prog 74 #[.agg #[.string xn,.string xd,.int .i64 xf,.int .i64 xl,.int .i64 xs,.slice va xc.length vcap],.bool hh] w' fun e w''=>e=.returned (.bool (mthB ⟨xn,xd,xf,xl,xs,xc⟩ hh))∧Below w'.heap.size w' w''):=fun w' h=>Zex xn xd xf xl xs _ xc hh k1 k2 k4 w' (HI2.out.keep h) k3
   have HF:Hid (∀ w':World,Bw w w'→Calls Tryz.prog 75 #[.agg #[.string nm,.string su,.slice ai K capi,.int .i64 fl,.int .i64 ld,.slice (some ⟨bk,o,none⟩) M capm],.string xn,.string xd] w' fun e w''=>e=.returned (.int .i64 (Yl xn xd ms 0))∧Below w'.heap.size w' w''):=fun w' h=>find_any nm su _ fl ld _ ms xn xd w' (HM.out.keep h)
   generalize mthB ⟨xn,xd,xf,xl,xs,xc⟩ hh=mb at *
   generalize Yl xn xd ms 0=fi at *
   clear hc k1 k2 k3 k4 hx hs HMO HMF
   cases mb with
   | false =>
     have HZ:Hid (z=false):=by rw [Hid,HR2.out,hst];simp
     clear hst HR2
     go_wp2_with (first
      | (go_at_call 74;refine (HS.out _ (hb.out.alloc hb.out.size _)).mono ?_;rintro e w3 ⟨rfl,hb3⟩;have HC4:Hid (CB w3 w.heap.size nm su (.slice ai K capi) fl ld (.slice (some ⟨bk,o,none⟩) M capm)):=(hcb.out.keep ((Below.refl _ _).alloc (Nat.le_refl _) _)).keep hb3;have u0:w3.cell? ⟨wr.heap.size,0,none⟩=some (.string xn):=(hb3.cell (p:=⟨wr.heap.size,0,none⟩) (by simp)).trans (by simp [go_sem]);have u1:w3.cell? ⟨wr.heap.size,1,none⟩=some (.string xd):=(hb3.cell (p:=⟨wr.heap.size,1,none⟩) (by simp)).trans (by simp [go_sem]);have B3:Hid (Bw w w3):=Below.step (hb.out.alloc hb.out.size _) hb3;obtain ⟨l9,l0,l1,l2,l3,l4,l5⟩:=HC4.out;clear hb3 d0 d1 d2 d3 d4 d5))
     go_ret
     exact ⟨Za HZ.out.symm,B3.out⟩
   | true =>
   cases hfk:(fi == (k:Int)) with
   | false =>
     have HZ:Hid (z=false):=by rw [Hid,HR2.out,hst,hfk];simp
     have hfn:(fi != (k:Int))=true:=by rw [bne,hfk];rfl
     clear hst HR2 hfk
     go_wp2_with (first
      | (go_at_call 74;refine (HS.out _ (hb.out.alloc hb.out.size _)).mono ?_;rintro e w3 ⟨rfl,hb3⟩;have HC4:Hid (CB w3 w.heap.size nm su (.slice ai K capi) fl ld (.slice (some ⟨bk,o,none⟩) M capm)):=(hcb.out.keep ((Below.refl _ _).alloc (Nat.le_refl _) _)).keep hb3;have u0:w3.cell? ⟨wr.heap.size,0,none⟩=some (.string xn):=(hb3.cell (p:=⟨wr.heap.size,0,none⟩) (by simp)).trans (by simp [go_sem]);have u1:w3.cell? ⟨wr.heap.size,1,none⟩=some (.string xd):=(hb3.cell (p:=⟨wr.heap.size,1,none⟩) (by simp)).trans (by simp [go_sem]);have B3:Hid (Bw w w3):=Below.step (hb.out.alloc hb.out.size _) hb3;obtain ⟨l9,l0,l1,l2,l3,l4,l5⟩:=HC4.out;clear hb3 d0 d1 d2 d3 d4 d5)
      | (go_at_call 75;refine (HF.out _ B3.out).mono ?_;rintro e w4 ⟨rfl,hb4⟩;have B4:Hid (Bw w w4):=Below.step B3.out hb4;have HC5:Hid (CB w4 w.heap.size nm su (.slice ai K capi) fl ld (.slice (some ⟨bk,o,none⟩) M capm)):=HC4.out.keep hb4;clear hb4))
     go_ret
     exact ⟨Za HZ.out.symm,B4.out⟩
   | true =>
     have HZ:Hid (Yv hh ms (ms.drop (k+1)) (k+1)=Yv hh ms ms 0):=by rw [Hid,hst,hfk];simp
     have hfn:(fi != (k:Int))=false:=by rw [bne,hfk];rfl
     clear hst hfk
     go_wp2_with (first
      | (go_at_call 74;refine (HS.out _ (hb.out.alloc hb.out.size _)).mono ?_;rintro e w3 ⟨rfl,hb3⟩;have HC4:Hid (CB w3 w.heap.size nm su (.slice ai K capi) fl ld (.slice (some ⟨bk,o,none⟩) M capm)):=(hcb.out.keep ((Below.refl _ _).alloc (Nat.le_refl _) _)).keep hb3;have u0:w3.cell? ⟨wr.heap.size,0,none⟩=some (.string xn):=(hb3.cell (p:=⟨wr.heap.size,0,none⟩) (by simp)).trans (by simp [go_sem]);have u1:w3.cell? ⟨wr.heap.size,1,none⟩=some (.string xd):=(hb3.cell (p:=⟨wr.heap.size,1,none⟩) (by simp)).trans (by simp [go_sem]);have B3:Hid (Bw w w3):=Below.step (hb.out.alloc hb.out.size _) hb3;obtain ⟨l9,l0,l1,l2,l3,l4,l5⟩:=HC4.out;clear hb3 d0 d1 d2 d3 d4 d5)
      | (go_at_call 75;refine (HF.out _ B3.out).mono ?_;rintro e w4 ⟨rfl,hb4⟩;have B4:Hid (Bw w w4):=Below.step B3.out hb4;have HC5:Hid (CB w4 w.heap.size nm su (.slice ai K capi) fl ld (.slice (some ⟨bk,o,none⟩) M capm)):=HC4.out.keep hb4;clear hb4))
     go_roundw
     case rel=>exact ⟨k+1,by go_num,by omega,HC5,B4,HZ⟩
     case measure=>simp [intOf];omega
  ·have e:k=M:=by omega
   subst e
   have HZ:Hid (z=true):=by
    rw [Hid,HR2.out,← hs.out,List.drop_of_length_le (by rw [HL.out];exact Nat.le_refl _)];simp [Yv]
   clear HR2 hs HMA
   go_wp2
   go_ret
   exact ⟨Za HZ.out.symm,hb.out⟩
theorem Ziz (c:Cls):clsB c=(namB c.nm c.su c.ifs&&(chkC c.fl == 0)&&(decide (0≤c.ld)&&decide (c.ld≤9))&&mtdB c.fl c.ms):=by
 unfold clsB namB mtdB
 have e1:decide (0≤c.ld)=!decide (c.ld<0):=by by_cases h:c.ld<0 <;> simp [h] <;> omega
 have e2:decide (c.ld≤9)=!decide (9<c.ld):=by by_cases h:9<c.ld <;> simp [h] <;> omega
 rw [e1,e2]
 generalize Zk c.nm.data.toList=x1
 generalize Zk c.su.data.toList=x2
 generalize (!(c.nm.toList == c.su.toList))=x3
 generalize (!decide (20<(c.ifs.length:Int)))=x4
 generalize (!decide (40<(c.ms.length:Int)))=x5
 generalize (!decide (c.ld<0))=x6
 generalize (!decide (9<c.ld))=x7
 generalize (chkC c.fl == 0)=x8
 generalize ifsB c.nm.data.toList [] c.ifs=x9
 cases x1 <;> cases x2 <;> cases x3 <;> cases x4 <;> cases x5 <;> cases x6 <;> cases x7 <;> cases x8 <;> cases x9 <;> simp
theorem Zg6 (c:Cls) (vi vm:Value) (w:World) (hi:IsStrs w vi c.ifs) (hm:IsMths w vm c.ms) (hn:c.nm.size≤maxLen) (hsu:c.su.size≤maxLen) (hif:∀ p∈c.ifs,p.length≤maxLen) (hmo:∀ m∈c.ms,MthOK m) (hmf:∀ m∈c.ms,MthFl m) (hcf:-9223372036854775808≤c.fl∧c.fl≤9223372036854775807) :
 Calls Tryz.prog 28 #[clsV c vi vm] w fun e w'=>e=.returned (.int .i64 (clsE c))∧Bw w w':=by
 have HN:Hid (∀ w':World,Bw w w'→Calls Tryz.prog 49 #[clsV c vi vm] w' fun e w''=>e=.returned (.bool (namB c.nm c.su c.ifs))∧Below w'.heap.size w' w''):=fun w' h=>Zay c vi vm w' (hi.keep h) (hm.keep h) hn hsu hif
 have HT:Hid (∀ w':World,Bw w w'→Calls Tryz.prog 52 #[clsV c vi vm] w' fun e w''=>e=.returned (.bool (mtdB c.fl c.ms))∧Below w'.heap.size w' w''):=fun w' h=>Jw c vi vm w' (hi.keep h) (hm.keep h) hmo hmf
 have HCC:Hid (∀ w,_):=Fl.CheckClass_any c.fl hcf
 have HWI:Hid (∀ w,_):=Za7 c.ld 0 9
 have HR:Hid (clsE c=if (namB c.nm c.su c.ifs&&(chkC c.fl == 0)&&(decide (0≤c.ld)&&decide (c.ld≤9))&&mtdB c.fl c.ms) then 0 else 1):=by rw [Hid,clsE,Ziz]
 obtain ⟨ai,capi,rfl,_,_,_⟩:=hi
 obtain ⟨am,capm,rfl,_,_,_⟩:=hm
 generalize clsE c=z at *
 generalize namB c.nm c.su c.ifs=q1 at *
 generalize mtdB c.fl c.ms=q4 at *
 generalize (decide (0≤c.ld)&&decide (c.ld≤9))=q3 at *
 generalize chkC c.fl=ck at *
 clear hn hsu hif hmo hmf hcf
 obtain ⟨nm,su,ifs,fl,ld,ms⟩:=c
 simp only [clsV] at *
 generalize ifs.length=K at *
 generalize ms.length=M at *
 generalize hck:(ck == 0)=q2 at *
 have hck2:(ck != 0)=!q2:=by rw [bne,hck]
 cases q1 with
 | false =>
   go_enter Tryz.func28,Tryz.ntmps28
   go_wp2_with (first
    | (go_at_call 49;refine (HN.out _ ((Below.refl _ _).alloc (Nat.le_refl _) _)).mono ?_;rintro e w1 ⟨rfl,hb1⟩;have hs1:w.heap.size<w1.heap.size:=sqS hb1;obtain ⟨a0,a1,a2,a3,a4,a5⟩:=sqX hb1 w.heap.size (.string nm) (.string su) (.slice ai K capi) (.int .i64 fl) (.int .i64 ld) (.slice am M capm);have B1:Hid (Bw w w1):=sqT hb1;clear hb1))
   go_ret
   exact ⟨Zf (by rw [HR.out];simp [*]),B1.out⟩
 | true =>
 cases q2 with
 | false =>
   go_enter Tryz.func28,Tryz.ntmps28
   go_wp2_with (first
    | (go_at_call 49;refine (HN.out _ ((Below.refl _ _).alloc (Nat.le_refl _) _)).mono ?_;rintro e w1 ⟨rfl,hb1⟩;have hs1:w.heap.size<w1.heap.size:=sqS hb1;obtain ⟨a0,a1,a2,a3,a4,a5⟩:=sqX hb1 w.heap.size (.string nm) (.string su) (.slice ai K capi) (.int .i64 fl) (.int .i64 ld) (.slice am M capm);have B1:Hid (Bw w w1):=sqT hb1;clear hb1)
    | (go_at_call 50;refine (HCC.out _).mono ?_;rintro e w2 ⟨rfl,hw2⟩;rw [hw2];clear hw2))
   go_ret
   exact ⟨Zf (by rw [HR.out];simp [*]),B1.out⟩
 | true =>
 cases q3 with
 | false =>
   go_enter Tryz.func28,Tryz.ntmps28
   go_wp2_with (first
    | (go_at_call 49;refine (HN.out _ ((Below.refl _ _).alloc (Nat.le_refl _) _)).mono ?_;rintro e w1 ⟨rfl,hb1⟩;have hs1:w.heap.size<w1.heap.size:=sqS hb1;obtain ⟨a0,a1,a2,a3,a4,a5⟩:=sqX hb1 w.heap.size (.string nm) (.string su) (.slice ai K capi) (.int .i64 fl) (.int .i64 ld) (.slice am M capm);have B1:Hid (Bw w w1):=sqT hb1;clear hb1)
    | (go_at_call 50;refine (HCC.out _).mono ?_;rintro e w2 ⟨rfl,hw2⟩;rw [hw2];clear hw2)
    | (go_at_call 51;refine (HWI.out _).mono ?_;rintro e w2 ⟨rfl,hw2⟩;rw [hw2];clear hw2))
   go_ret
   exact ⟨Zf (by rw [HR.out];simp [*]),B1.out⟩
 | true =>
 cases q4
 all_goals
  go_enter Tryz.func28,Tryz.ntmps28
  go_wp2_with (first
   | (go_at_call 49;refine (HN.out _ ((Below.refl _ _).alloc (Nat.le_refl _) _)).mono ?_;rintro e w1 ⟨rfl,hb1⟩;have hs1:w.heap.size<w1.heap.size:=sqS hb1;obtain ⟨a0,a1,a2,a3,a4,a5⟩:=sqX hb1 w.heap.size (.string nm) (.string su) (.slice ai K capi) (.int .i64 fl) (.int .i64 ld) (.slice am M capm);have B1:Hid (Bw w w1):=sqT hb1;clear hb1)
   | (go_at_call 50;refine (HCC.out _).mono ?_;rintro e w2 ⟨rfl,hw2⟩;rw [hw2];clear hw2)
   | (go_at_call 51;refine (HWI.out _).mono ?_;rintro e w2 ⟨rfl,hw2⟩;rw [hw2];clear hw2)
   | (go_at_call 52;refine (HT.out _ B1.out).mono ?_;rintro e w3 ⟨rfl,hb3⟩;have B3:Hid (Bw w w3):=Below.step B1.out hb3;clear hb3))
  go_ret
  exact ⟨Zf (by rw [HR.out];simp [*]),B3.out⟩
end Go.Proofs.YtkoogmegdfpopaaGreat
