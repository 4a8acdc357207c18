import Derived.Test.YtkclpcmkplbclaaGreatHkN
import Derived.Test.YtkclpcmkplbclaaGreatDlB
import Derived.Test.YtkclpcmkplbclaaGreatCurD
set_option maxRecDepth 100000
namespace Go.Proofs.YtkclpcmkplbclaaGreat
open Go.RowKit Go.Maps
def clsA2:Cls:=⟨⟨#[65]⟩,⟨#[79,98,106,101,99,116]⟩,[],1,0,[]⟩
theorem defA2:dfV P3.length (defN P3 clsA2)=.tuple #[.int .i64 3,.int .i64 0]:=by kernel_rfl
theorem extA2:extI P3 2 0=true:=by kernel_rfl
theorem clsA_in2 (w:World):ClsIn w (.slice none 0 0) (.slice none 0 0) clsA2 :=
  ⟨⟨none,0,rfl,Nat.le_refl _,by unfold maxLen;omega,fun h=>absurd rfl h⟩,⟨none,0,rfl,Nat.le_refl _,by unfold maxLen;omega,fun h=>absurd rfl h⟩,.inl rfl,.inl rfl,(fun _ _ _ _ h=>by cases h),⟨by unfold maxLen;decide,by unfold maxLen;decide,(fun p hp=>by cases hp),by decide,by decide,(fun m hm=>by cases hm)⟩⟩
set_option maxHeartbeats 4000000 in
theorem awakeT_n2 (W:World) (HN:Hid (∀ w:World,Calls Tryz.prog 38 #[] w fun e w'=>∃ b,e=.returned (.pointer (some ⟨b,0,none⟩))∧(∃ vp pv,HW w' w.heap.size b w.heap.size P3 vp pv)∧Below w.heap.size w w'))
    (HL:Hid (∀ b w,WAt b P3 w→Calls Tryz.prog 58 #[.pointer (some ⟨b,0,none⟩)] w fun e w'=>e=.returned (.int .i64 3)∧w'=w))
    (HX:Hid (∀ b w,WAt b P3 w→Calls Tryz.prog 20 #[.pointer (some ⟨b,0,none⟩),.int .i64 2,.int .i64 0] w fun e w'=>e=.returned (.bool true)∧Below w.heap.size w w'))
    (HD:Hid (∀ N b w,N≤w.heap.size→(∃ vp pv,HW w N b N P3 vp pv)→Calls Tryz.prog 40 #[.pointer (some ⟨b,0,none⟩),.agg #[.string ⟨#[65]⟩,.string ⟨#[79,98,106,101,99,116]⟩,.slice none 0 0,.int .i64 1,.int .i64 0,.slice none 0 0]] w fun e w'=>e=.returned (.tuple #[.int .i64 3,.int .i64 0])∧Below N w w')):Calls Tryz.prog 37 #[] W fun e w'=>e=.returned (.bool true)∧Below W.heap.size W w':=by
  go_enter Tryz.func37,Tryz.ntmps37
  go_wp2_with (first
    | (go_at_call 38;refine (HN.out _).mono ?_;rintro e w1 ⟨b,rfl,hw,hb⟩;have H1:Hid (∃ vp pv,HW w1 W.heap.size b W.heap.size P3 vp pv):=hw;have H2:Hid (WAt b P3 w1):=(by obtain ⟨vp,pv,hw⟩:=hw;exact hw.wat);have B1:Hid (Below W.heap.size W w1):=hb;clear hw hb HN)
    | (go_at_call 58;refine (HL.out _ _ H2.out).mono ?_;rintro e w9 ⟨rfl,hw9⟩;rw [hw9];clear hw9 w9 HL)
    | (go_at_call 20;refine (HX.out _ _ H2.out).mono ?_;rintro e w2 ⟨rfl,hb⟩;have H3:Hid (∃ vp pv,HW w2 W.heap.size b W.heap.size P3 vp pv):=(by obtain ⟨vp,pv,hw⟩:=H1.out;exact ⟨vp,pv,hw.below hb⟩);have B2:Hid (Below W.heap.size W w2):=bstep B1.out hb;clear hb HX H1 H2)
    | (go_at_call 40;refine (HD.out _ _ _ B2.out.size H3.out).mono ?_;rintro e w3 ⟨rfl,hb⟩;have B3:Hid (Below W.heap.size W w3):=B2.out.trans hb;clear hb HD H3))
  all_goals go_ret
  all_goals exact ⟨retB (by simp),B3.out⟩
theorem awakeT_c2 (W:World):Calls Tryz.prog 37 #[] W fun e w'=>e=.returned (.bool true)∧Below W.heap.size W w' :=
  awakeT_n2 W (fun w=>(new_any w).mono fun e w' zz=>⟨_,zz.1,zz.2.1,zz.2.2⟩) (fun b w hw=>len_c hw) (fun b w hw=>(extends_c hw wi3 2 0).mono fun e w' zz=>⟨by rw [zz.1,extA2],zz.2⟩) (fun N b w hN hw=>by
    obtain ⟨vp,pv,hw⟩:=hw
    exact (define_any N b N P3 vp pv clsA2 _ _ w hw hN (clsA_in2 w) wi3.nm).mono fun e w' zz=>⟨by rw [zz.1,defA2],zz.2.2.1⟩)
theorem tty_zero {ps:List Plc} {x:Int} {s:ByteArray} {y:Int} {t:ByteArray} (h:(ttyR ps x s y t).2=0):ldI ps x s=0∧ldI ps y t=0∧(ttyR ps x s y t).1.1=subB ps x s y t:=by
  rw [ttyR] at h ⊢
  by_cases h1:ldI ps x s=0
  · rw [if_pos h1] at h ⊢
    by_cases h2:ldI ps y t=0
    · rw [if_pos h2];exact ⟨h1,h2,rfl⟩
    · rw [if_neg h2] at h;exact absurd h h2
  · rw [if_neg h1] at h;exact absurd h h1
set_option maxHeartbeats 16000000 in
theorem WholeSubtypes_any (v:Value) (l:List Cls) (v2:Value) (ts:List (Int×ByteArray)) (W:World) (h:IsClss W v l) (ht:IsTys W v2 ts) (hsz:∀ t∈ts,t.2.size≤maxLen):Calls Tryz.prog 9 #[v,v2] W fun e w'=>e=.returned (.bool true)∧Below W.heap.size W w':=by
  have hCW:=clss_w h
  obtain ⟨ao,cap,rfl,h1,h2,h3⟩:=h
  obtain ⟨at_,capt,rfl,g1,g2,g3⟩:=ht
  unfold maxLen at h2 g2
  obtain ⟨L,hL⟩:∃ L,l.length=L:=⟨_,rfl⟩
  have HL:Hid (l.length=L):=hL
  have HI:Hid _:=h3
  have HCW:Hid (∀ c∈l,ClsW c):=hCW
  obtain ⟨m,hm⟩:∃ m,ts.length=m:=⟨_,rfl⟩
  have HM:Hid (ts.length=m):=hm
  have HG:Hid (ts≠[]→∃ bk o,at_=some ⟨bk,o,none⟩∧bk<W.heap.size∧∀ k t,ts[k]?=some t→W.cell? ⟨bk,o+k * 2,none⟩=some (.int .i64 t.1)∧W.cell? ⟨bk,o+k * 2+1,none⟩=some (.string t.2)):=g3
  have HZ:Hid (∀ t∈ts,t.2.size≤maxLen):=hsz
  rw [hL] at h1 ⊢
  rw [hm] at g1 ⊢
  clear hL h3 hCW hm g3 hsz
  have HA:Hid (∀ w:World,Calls Tryz.prog 37 #[] w fun e w'=>e=.returned (.bool true)∧Below w.heap.size w w'):=awakeT_c2
  have HN:Hid (∀ w:World,Calls Tryz.prog 38 #[] w fun e w'=>e=.returned (.pointer (some ⟨w.heap.size+1,0,none⟩))∧(∃ vp pv,HW w' w.heap.size (w.heap.size+1) w.heap.size P3 vp pv)∧Below w.heap.size w w'):=new_any
  go_enter Tryz.func9,Tryz.ntmps9
  go_wp2_with (first
    | (go_at_call 37;refine (HA.out _).mono ?_;rintro e w1 ⟨rfl,hb⟩;have B1:Hid (Below W.heap.size W w1):=bstep (by repeat (first|exact Below.refl _ _|refine Below.setCell ?_ (by simp;try omega) _|refine Below.alloc ?_ (by simp;try omega) _|refine Below.drew ?_)) hb;clear hb HA)
    | (go_at_call 38;refine (HN.out _).mono ?_;rintro e w2 ⟨rfl,hw,hb⟩;have H2:Hid (∃ vp pv,HW w2 w1.heap.size (w1.heap.size+1) w1.heap.size P3 vp pv):=hw;have q1:W.heap.size≤w1.heap.size:=B1.out.size;have B2:Hid (Below w1.heap.size w1 w2):=hb;clear hb hw HN))
  go_loopw [6] (fun iv wr=>∃ (i:Nat),iv=.int .i64 i∧i≤L+1∧i≤12∧Hid (∃ vp pv,HW wr w1.heap.size (w1.heap.size+1) w1.heap.size (wld (l.take i)) vp pv)∧Hid (Below w1.heap.size w1 wr)) (fun iv _=>12 - (intOf iv).toNat)
  case atStart=>exact ⟨0,rfl,Nat.zero_le _,by omega,H2,B2⟩
  case round =>
    clear H2 B2
    obtain ⟨wo,rfl⟩:∃ wo,wo=wr:=⟨_,rfl⟩
    obtain ⟨i,rfl,hi,hi12,hHW,hB⟩:=hrel
    by_cases hlt:i≤L∧i<12
    · obtain ⟨hlt,hlt12⟩:=hlt
      have hltI:(i:Int)≤(L:Int):=by omega
      have hltI2:(i:Int)<12:=by omega
      have hcw:∀ c∈l.take i,ClsW c:=fun c hc=>HCW.out c (List.mem_of_mem_take hc)
      have HSt:Hid (StW (wld (l.take i))):=stW _ hcw
      have HWA:Hid (WAt (w1.heap.size+1) (wld (l.take i)) wo):=by obtain ⟨vp,pv,hw⟩:=hHW.out;exact hw.wat
      go_wp2
      go_loopw [7] (fun jv wr=>∃ (j:Nat),jv=.int .i64 j∧j≤m∧j≤6∧Hid (Below wo.heap.size wo wr)) (fun jv _=>6 - (intOf jv).toNat)
      case atStart=>exact ⟨0,rfl,Nat.zero_le _,by omega,Below.refl _ _⟩
      case round =>
        obtain ⟨wj,rfl⟩:∃ wj,wj=wr:=⟨_,rfl⟩
        obtain ⟨j,rfl,hjm,hj6,hBj⟩:=hrel
        by_cases hjl:j<m∧j<6
        · obtain ⟨hjl,hjl6⟩:=hjl
          have hjI:(j:Int)<(m:Int):=by omega
          have hjI6:(j:Int)<6:=by omega
          go_wp2
          go_loopw [8] (fun kv wr=>∃ (k:Nat),kv=.int .i64 k∧k≤m∧k≤6∧Hid (Below wo.heap.size wo wr)) (fun kv _=>6 - (intOf kv).toNat)
          case atStart=>exact ⟨0,rfl,Nat.zero_le _,by omega,hBj⟩
          case round =>
            obtain ⟨wk,rfl⟩:∃ wk,wk=wr:=⟨_,rfl⟩
            obtain ⟨k,rfl,hkm,hk6,Bwk⟩:=hrel
            by_cases hkl:k<m∧k<6
            · obtain ⟨hkl,hkl6⟩:=hkl
              have hkI:(k:Int)<(m:Int):=by omega
              have hkI6:(k:Int)<6:=by omega
              obtain ⟨⟨x,s⟩,hx⟩:∃ u,ts[j]?=some u:=⟨_,List.getElem?_eq_getElem (by rw [HM.out];exact hjl)⟩
              obtain ⟨⟨y,t⟩,hy⟩:∃ u,ts[k]?=some u:=⟨_,List.getElem?_eq_getElem (by rw [HM.out];exact hkl)⟩
              obtain ⟨bt,ot,rfl,htl,hcl⟩:=HG.out (fun e=>by rw [e] at hx;simp at hx)
              have hbW:Below W.heap.size W wk:=bstep (bstep B1.out hB.out) Bwk.out
              have x0:wk.cell? ⟨bt,ot+j * 2,none⟩=some (.int .i64 x):=(hbW.cell (p:=⟨bt,ot+j * 2,none⟩) htl).trans (hcl j _ hx).1
              have x1:wk.cell? ⟨bt,ot+j * 2+1,none⟩=some (.string s):=(hbW.cell (p:=⟨bt,ot+j * 2+1,none⟩) htl).trans (hcl j _ hx).2
              have y0:wk.cell? ⟨bt,ot+k * 2,none⟩=some (.int .i64 y):=(hbW.cell (p:=⟨bt,ot+k * 2,none⟩) htl).trans (hcl k _ hy).1
              have y1:wk.cell? ⟨bt,ot+k * 2+1,none⟩=some (.string t):=(hbW.cell (p:=⟨bt,ot+k * 2+1,none⟩) htl).trans (hcl k _ hy).2
              have tL:bt<wk.heap.size:=Nat.lt_of_lt_of_le htl hbW.size
              have hs:s.size≤maxLen:=HZ.out _ (List.mem_of_getElem? hx)
              have ht:t.size≤maxLen:=HZ.out _ (List.mem_of_getElem? hy)
              obtain ⟨ps,hps⟩:∃ ps,wld (l.take i)=ps:=⟨_,rfl⟩
              have hSt:StW ps:=by rw [← hps];exact HSt.out
              have hWA:WAt (w1.heap.size+1) ps wo:=by rw [← hps];exact HWA.out
              have HTY0:=fun w (hb:Below wo.heap.size wo w)=>tty_c (hWA.below hb) hSt.ty.wi x s y t hs ht
              have HSU0:=fun w (hb:Below wo.heap.size wo w)=>sub_c (hWA.below hb) hSt.ty.wi x s y t hs ht
              have HCL0:=fun (e0:(ttyR ps x s y t).2=0) w (hb:Below wo.heap.size wo w)=>clb_c (hWA.below hb) hSt x s y t hs ht (tty_zero e0).1 (tty_zero e0).2.1
              have hR:=@tty_reads ps x s y t
              rw [su_tty] at HSU0
              have hCL1:(ttyR ps x s y t).2=0→∀ w,Below wo.heap.size wo w→Calls Tryz.prog 39 #[.pointer (some ⟨w1.heap.size+1,0,none⟩),.agg #[.int .i64 x,.string s],.agg #[.int .i64 y,.string t]] w fun e w'=>e=.returned (.bool (ttyR ps x s y t).1.1)∧Below w.heap.size w w':=fun e0 w hb=>by
                rw [(tty_zero e0).2.2];exact HCL0 e0 w hb
              obtain ⟨⟨⟨A,nn⟩,E⟩,hr0⟩:∃ r,ttyR ps x s y t=r:=⟨_,rfl⟩
              rw [hr0] at HTY0 HSU0 hR hCL1
              simp only at HTY0 HSU0 hR hCL1
              have HTY:Hid (∀ w,Below wo.heap.size wo w→Calls Tryz.prog 22 #[.pointer (some ⟨w1.heap.size+1,0,none⟩),.agg #[.int .i64 x,.string s],.agg #[.int .i64 y,.string t]] w fun e w'=>e=.returned (.tuple #[.bool A,.int .i64 (nn:Int),.int .i64 E])∧Below w.heap.size w w'):=HTY0
              have HSU:Hid (∀ w,Below wo.heap.size wo w→Calls Tryz.prog 23 #[.pointer (some ⟨w1.heap.size+1,0,none⟩),.agg #[.int .i64 x,.string s],.agg #[.int .i64 y,.string t]] w fun e w'=>e=.returned (.tuple #[.bool A,.int .i64 E])∧Below w.heap.size w w'):=HSU0
              clear hx hy hcl hs ht HTY0 HSU0 HCL0 hps hSt hWA hr0 hbW htl
              by_cases hE:E=0
              · subst hE
                have HCL:Hid (∀ w,Below wo.heap.size wo w→Calls Tryz.prog 39 #[.pointer (some ⟨w1.heap.size+1,0,none⟩),.agg #[.int .i64 x,.string s],.agg #[.int .i64 y,.string t]] w fun e w'=>e=.returned (.bool A)∧Below w.heap.size w w'):=hCL1 rfl
                have hn1:=hR rfl
                have hn2:¬ (nn:Int)<1:=by omega
                have hn3:decide ((nn:Int)<1)=false:=by simp;omega
                clear hCL1 hR
                go_upto_region 13 with fail
                obtain ⟨σ,V,hne,V1,V2⟩:=class_of' (fun w'=>Below wk.heap.size wk w') ⟨_,Below.refl _ _⟩
                have cV0:∀ z9,(V z9).cell? ⟨bt,ot+j * 2,none⟩=some (.int .i64 x):=fun z9=>((V1.out z9).cell (p:=⟨bt,ot+j * 2,none⟩) tL).trans x0
                have cV1:∀ z9,(V z9).cell? ⟨bt,ot+j * 2+1,none⟩=some (.string s):=fun z9=>((V1.out z9).cell (p:=⟨bt,ot+j * 2+1,none⟩) tL).trans x1
                have cV2:∀ z9,(V z9).cell? ⟨bt,ot+k * 2,none⟩=some (.int .i64 y):=fun z9=>((V1.out z9).cell (p:=⟨bt,ot+k * 2,none⟩) tL).trans y0
                have cV3:∀ z9,(V z9).cell? ⟨bt,ot+k * 2+1,none⟩=some (.string t):=fun z9=>((V1.out z9).cell (p:=⟨bt,ot+k * 2+1,none⟩) tL).trans y1
                have HQ:Hid (∀ z9,Calls Tryz.prog 22 #[.pointer (some ⟨w1.heap.size+1,0,none⟩),.agg #[.int .i64 x,.string s],.agg #[.int .i64 y,.string t]] (V z9) fun e w''=>e=.returned (.tuple #[.bool A,.int .i64 (nn:Int),.int .i64 0])∧∃ z8,w''=V z8):=fun z9=>(HTY.out _ (bstep Bwk.out (V1.out z9))).mono fun e w'' zz=>⟨zz.1,V2.out _ (bstep (V1.out z9) zz.2)⟩
                refine wp_region_class (C:=fun w'=>∃ z8,w'=V z8) (by kernel_rfl) (by kernel_rfl) (V2.out _ (Below.refl _ _).drew) ?_
                repeat (go_big_quiet_step (first|(go_at_call 22;exact HQ.out _)))
                refine wpQuiet_nil ?_
                intro w3 hw9
                obtain ⟨s9,hw9⟩:=hw9
                have hb:Below wk.heap.size wk w3:=by rw [hw9];exact V1.out s9
                clear hw9 cV0 cV1 cV2 cV3 HQ V1 V2 s9 hne V σ
                have Bw3:Hid (Below wo.heap.size wo w3):=bstep Bwk.out hb
                have x0x:=(hb.cell (p:=⟨bt,ot+j * 2,none⟩) tL).trans x0
                have x1x:=(hb.cell (p:=⟨bt,ot+j * 2+1,none⟩) tL).trans x1
                have y0x:=(hb.cell (p:=⟨bt,ot+k * 2,none⟩) tL).trans y0
                have y1x:=(hb.cell (p:=⟨bt,ot+k * 2+1,none⟩) tL).trans y1
                have tLx:bt<w3.heap.size:=Nat.lt_of_lt_of_le tL hb.size
                clear x0 x1 y0 y1 tL hb
                have x0:=x0x
                have x1:=x1x
                have y0:=y0x
                have y1:=y1x
                have tL:=tLx
                clear x0x x1x y0x y1x tLx
                go_upto_region 14 with fail
                obtain ⟨σ,V,hne,V1,V2⟩:=class_of' (fun w'=>Below w3.heap.size w3 w') ⟨_,Below.refl _ _⟩
                have cV0:∀ z9,(V z9).cell? ⟨bt,ot+j * 2,none⟩=some (.int .i64 x):=fun z9=>((V1.out z9).cell (p:=⟨bt,ot+j * 2,none⟩) tL).trans x0
                have cV1:∀ z9,(V z9).cell? ⟨bt,ot+j * 2+1,none⟩=some (.string s):=fun z9=>((V1.out z9).cell (p:=⟨bt,ot+j * 2+1,none⟩) tL).trans x1
                have cV2:∀ z9,(V z9).cell? ⟨bt,ot+k * 2,none⟩=some (.int .i64 y):=fun z9=>((V1.out z9).cell (p:=⟨bt,ot+k * 2,none⟩) tL).trans y0
                have cV3:∀ z9,(V z9).cell? ⟨bt,ot+k * 2+1,none⟩=some (.string t):=fun z9=>((V1.out z9).cell (p:=⟨bt,ot+k * 2+1,none⟩) tL).trans y1
                have HQ:Hid (∀ z9,Calls Tryz.prog 23 #[.pointer (some ⟨w1.heap.size+1,0,none⟩),.agg #[.int .i64 x,.string s],.agg #[.int .i64 y,.string t]] (V z9) fun e w''=>e=.returned (.tuple #[.bool A,.int .i64 0])∧∃ z8,w''=V z8):=fun z9=>(HSU.out _ (bstep Bw3.out (V1.out z9))).mono fun e w'' zz=>⟨zz.1,V2.out _ (bstep (V1.out z9) zz.2)⟩
                refine wp_region_class (C:=fun w'=>∃ z8,w'=V z8) (by kernel_rfl) (by kernel_rfl) (V2.out _ (Below.refl _ _).drew) ?_
                repeat (go_big_quiet_step (first|(go_at_call 23;exact HQ.out _)))
                refine wpQuiet_nil ?_
                intro w4 hw9
                obtain ⟨s9,hw9⟩:=hw9
                have hb:Below w3.heap.size w3 w4:=by rw [hw9];exact V1.out s9
                clear hw9 cV0 cV1 cV2 cV3 HQ V1 V2 s9 hne V σ
                have Bw4:Hid (Below wo.heap.size wo w4):=bstep Bw3.out hb
                have x0x:=(hb.cell (p:=⟨bt,ot+j * 2,none⟩) tL).trans x0
                have x1x:=(hb.cell (p:=⟨bt,ot+j * 2+1,none⟩) tL).trans x1
                have y0x:=(hb.cell (p:=⟨bt,ot+k * 2,none⟩) tL).trans y0
                have y1x:=(hb.cell (p:=⟨bt,ot+k * 2+1,none⟩) tL).trans y1
                have tLx:bt<w4.heap.size:=Nat.lt_of_lt_of_le tL hb.size
                clear x0 x1 y0 y1 tL hb
                have x0:=x0x
                have x1:=x1x
                have y0:=y0x
                have y1:=y1x
                have tL:=tLx
                clear x0x x1x y0x y1x tLx
                go_upto_region 17 with fail
                obtain ⟨σ,V,hne,V1,V2⟩:=class_of' (fun w'=>Below w4.heap.size w4 w') ⟨_,Below.refl _ _⟩
                have cV0:∀ z9,(V z9).cell? ⟨bt,ot+j * 2,none⟩=some (.int .i64 x):=fun z9=>((V1.out z9).cell (p:=⟨bt,ot+j * 2,none⟩) tL).trans x0
                have cV1:∀ z9,(V z9).cell? ⟨bt,ot+j * 2+1,none⟩=some (.string s):=fun z9=>((V1.out z9).cell (p:=⟨bt,ot+j * 2+1,none⟩) tL).trans x1
                have cV2:∀ z9,(V z9).cell? ⟨bt,ot+k * 2,none⟩=some (.int .i64 y):=fun z9=>((V1.out z9).cell (p:=⟨bt,ot+k * 2,none⟩) tL).trans y0
                have cV3:∀ z9,(V z9).cell? ⟨bt,ot+k * 2+1,none⟩=some (.string t):=fun z9=>((V1.out z9).cell (p:=⟨bt,ot+k * 2+1,none⟩) tL).trans y1
                have HQ:Hid (∀ z9,Calls Tryz.prog 39 #[.pointer (some ⟨w1.heap.size+1,0,none⟩),.agg #[.int .i64 x,.string s],.agg #[.int .i64 y,.string t]] (V z9) fun e w''=>e=.returned (.bool A)∧∃ z8,w''=V z8):=fun z9=>(HCL.out _ (bstep Bw4.out (V1.out z9))).mono fun e w'' zz=>⟨zz.1,V2.out _ (bstep (V1.out z9) zz.2)⟩
                refine wp_region_class (C:=fun w'=>∃ z8,w'=V z8) (by kernel_rfl) (by kernel_rfl) (V2.out _ (Below.refl _ _).drew) ?_
                repeat (go_big_quiet_step (first|(go_at_call 39;exact HQ.out _)))
                refine wpQuiet_nil ?_
                intro w5 hw9
                obtain ⟨s9,hw9⟩:=hw9
                have hb:Below w4.heap.size w4 w5:=by rw [hw9];exact V1.out s9
                clear hw9 cV0 cV1 cV2 cV3 HQ V1 V2 s9 hne V σ
                have Bw5:Hid (Below wo.heap.size wo w5):=bstep Bw4.out hb
                have x0x:=(hb.cell (p:=⟨bt,ot+j * 2,none⟩) tL).trans x0
                have x1x:=(hb.cell (p:=⟨bt,ot+j * 2+1,none⟩) tL).trans x1
                have y0x:=(hb.cell (p:=⟨bt,ot+k * 2,none⟩) tL).trans y0
                have y1x:=(hb.cell (p:=⟨bt,ot+k * 2+1,none⟩) tL).trans y1
                have tLx:bt<w5.heap.size:=Nat.lt_of_lt_of_le tL hb.size
                clear x0 x1 y0 y1 tL hb
                have x0:=x0x
                have x1:=x1x
                have y0:=y0x
                have y1:=y1x
                have tL:=tLx
                clear x0x x1x y0x y1x tLx
                go_wp2
                exact ⟨⟨k+1,by simp,by omega,by omega,Bw5⟩,by simp [intOf];omega⟩
              · have hE2:(E == 0)=false:=by simp [hE]
                clear hCL1 hR
                go_upto_region 13 with fail
                obtain ⟨σ,V,hne,V1,V2⟩:=class_of' (fun w'=>Below wk.heap.size wk w') ⟨_,Below.refl _ _⟩
                have cV0:∀ z9,(V z9).cell? ⟨bt,ot+j * 2,none⟩=some (.int .i64 x):=fun z9=>((V1.out z9).cell (p:=⟨bt,ot+j * 2,none⟩) tL).trans x0
                have cV1:∀ z9,(V z9).cell? ⟨bt,ot+j * 2+1,none⟩=some (.string s):=fun z9=>((V1.out z9).cell (p:=⟨bt,ot+j * 2+1,none⟩) tL).trans x1
                have cV2:∀ z9,(V z9).cell? ⟨bt,ot+k * 2,none⟩=some (.int .i64 y):=fun z9=>((V1.out z9).cell (p:=⟨bt,ot+k * 2,none⟩) tL).trans y0
                have cV3:∀ z9,(V z9).cell? ⟨bt,ot+k * 2+1,none⟩=some (.string t):=fun z9=>((V1.out z9).cell (p:=⟨bt,ot+k * 2+1,none⟩) tL).trans y1
                have HQ:Hid (∀ z9,Calls Tryz.prog 22 #[.pointer (some ⟨w1.heap.size+1,0,none⟩),.agg #[.int .i64 x,.string s],.agg #[.int .i64 y,.string t]] (V z9) fun e w''=>e=.returned (.tuple #[.bool A,.int .i64 (nn:Int),.int .i64 E])∧∃ z8,w''=V z8):=fun z9=>(HTY.out _ (bstep Bwk.out (V1.out z9))).mono fun e w'' zz=>⟨zz.1,V2.out _ (bstep (V1.out z9) zz.2)⟩
                refine wp_region_class (C:=fun w'=>∃ z8,w'=V z8) (by kernel_rfl) (by kernel_rfl) (V2.out _ (Below.refl _ _).drew) ?_
                repeat (go_big_quiet_step (first|(go_at_call 22;exact HQ.out _)))
                refine wpQuiet_nil ?_
                intro w3 hw9
                obtain ⟨s9,hw9⟩:=hw9
                have hb:Below wk.heap.size wk w3:=by rw [hw9];exact V1.out s9
                clear hw9 cV0 cV1 cV2 cV3 HQ V1 V2 s9 hne V σ
                have Bw3:Hid (Below wo.heap.size wo w3):=bstep Bwk.out hb
                have x0x:=(hb.cell (p:=⟨bt,ot+j * 2,none⟩) tL).trans x0
                have x1x:=(hb.cell (p:=⟨bt,ot+j * 2+1,none⟩) tL).trans x1
                have y0x:=(hb.cell (p:=⟨bt,ot+k * 2,none⟩) tL).trans y0
                have y1x:=(hb.cell (p:=⟨bt,ot+k * 2+1,none⟩) tL).trans y1
                have tLx:bt<w3.heap.size:=Nat.lt_of_lt_of_le tL hb.size
                clear x0 x1 y0 y1 tL hb
                have x0:=x0x
                have x1:=x1x
                have y0:=y0x
                have y1:=y1x
                have tL:=tLx
                clear x0x x1x y0x y1x tLx
                go_upto_region 14 with fail
                obtain ⟨σ,V,hne,V1,V2⟩:=class_of' (fun w'=>Below w3.heap.size w3 w') ⟨_,Below.refl _ _⟩
                have cV0:∀ z9,(V z9).cell? ⟨bt,ot+j * 2,none⟩=some (.int .i64 x):=fun z9=>((V1.out z9).cell (p:=⟨bt,ot+j * 2,none⟩) tL).trans x0
                have cV1:∀ z9,(V z9).cell? ⟨bt,ot+j * 2+1,none⟩=some (.string s):=fun z9=>((V1.out z9).cell (p:=⟨bt,ot+j * 2+1,none⟩) tL).trans x1
                have cV2:∀ z9,(V z9).cell? ⟨bt,ot+k * 2,none⟩=some (.int .i64 y):=fun z9=>((V1.out z9).cell (p:=⟨bt,ot+k * 2,none⟩) tL).trans y0
                have cV3:∀ z9,(V z9).cell? ⟨bt,ot+k * 2+1,none⟩=some (.string t):=fun z9=>((V1.out z9).cell (p:=⟨bt,ot+k * 2+1,none⟩) tL).trans y1
                have HQ:Hid (∀ z9,Calls Tryz.prog 23 #[.pointer (some ⟨w1.heap.size+1,0,none⟩),.agg #[.int .i64 x,.string s],.agg #[.int .i64 y,.string t]] (V z9) fun e w''=>e=.returned (.tuple #[.bool A,.int .i64 E])∧∃ z8,w''=V z8):=fun z9=>(HSU.out _ (bstep Bw3.out (V1.out z9))).mono fun e w'' zz=>⟨zz.1,V2.out _ (bstep (V1.out z9) zz.2)⟩
                refine wp_region_class (C:=fun w'=>∃ z8,w'=V z8) (by kernel_rfl) (by kernel_rfl) (V2.out _ (Below.refl _ _).drew) ?_
                repeat (go_big_quiet_step (first|(go_at_call 23;exact HQ.out _)))
                refine wpQuiet_nil ?_
                intro w4 hw9
                obtain ⟨s9,hw9⟩:=hw9
                have hb:Below w3.heap.size w3 w4:=by rw [hw9];exact V1.out s9
                clear hw9 cV0 cV1 cV2 cV3 HQ V1 V2 s9 hne V σ
                have Bw4:Hid (Below wo.heap.size wo w4):=bstep Bw3.out hb
                have x0x:=(hb.cell (p:=⟨bt,ot+j * 2,none⟩) tL).trans x0
                have x1x:=(hb.cell (p:=⟨bt,ot+j * 2+1,none⟩) tL).trans x1
                have y0x:=(hb.cell (p:=⟨bt,ot+k * 2,none⟩) tL).trans y0
                have y1x:=(hb.cell (p:=⟨bt,ot+k * 2+1,none⟩) tL).trans y1
                have tLx:bt<w4.heap.size:=Nat.lt_of_lt_of_le tL hb.size
                clear x0 x1 y0 y1 tL hb
                have x0:=x0x
                have x1:=x1x
                have y0:=y0x
                have y1:=y1x
                have tL:=tLx
                clear x0x x1x y0x y1x tLx
                go_upto_region 17 with fail
                obtain ⟨σ,V,hne,V1,V2⟩:=class_of' (fun w'=>Below w4.heap.size w4 w') ⟨_,Below.refl _ _⟩
                have cV0:∀ z9,(V z9).cell? ⟨bt,ot+j * 2,none⟩=some (.int .i64 x):=fun z9=>((V1.out z9).cell (p:=⟨bt,ot+j * 2,none⟩) tL).trans x0
                have cV1:∀ z9,(V z9).cell? ⟨bt,ot+j * 2+1,none⟩=some (.string s):=fun z9=>((V1.out z9).cell (p:=⟨bt,ot+j * 2+1,none⟩) tL).trans x1
                have cV2:∀ z9,(V z9).cell? ⟨bt,ot+k * 2,none⟩=some (.int .i64 y):=fun z9=>((V1.out z9).cell (p:=⟨bt,ot+k * 2,none⟩) tL).trans y0
                have cV3:∀ z9,(V z9).cell? ⟨bt,ot+k * 2+1,none⟩=some (.string t):=fun z9=>((V1.out z9).cell (p:=⟨bt,ot+k * 2+1,none⟩) tL).trans y1
                have HQ:=0
                refine wp_region_class (C:=fun w'=>∃ z8,w'=V z8) (by kernel_rfl) (by kernel_rfl) (V2.out _ (Below.refl _ _).drew) ?_
                repeat (go_big_quiet_step (fail))
                refine wpQuiet_nil ?_
                intro w5 hw9
                obtain ⟨s9,hw9⟩:=hw9
                have hb:Below w4.heap.size w4 w5:=by rw [hw9];exact V1.out s9
                clear hw9 cV0 cV1 cV2 cV3 HQ V1 V2 s9 hne V σ
                have Bw5:Hid (Below wo.heap.size wo w5):=bstep Bw4.out hb
                have x0x:=(hb.cell (p:=⟨bt,ot+j * 2,none⟩) tL).trans x0
                have x1x:=(hb.cell (p:=⟨bt,ot+j * 2+1,none⟩) tL).trans x1
                have y0x:=(hb.cell (p:=⟨bt,ot+k * 2,none⟩) tL).trans y0
                have y1x:=(hb.cell (p:=⟨bt,ot+k * 2+1,none⟩) tL).trans y1
                have tLx:bt<w5.heap.size:=Nat.lt_of_lt_of_le tL hb.size
                clear x0 x1 y0 y1 tL hb
                have x0:=x0x
                have x1:=x1x
                have y0:=y0x
                have y1:=y1x
                have tL:=tLx
                clear x0x x1x y0x y1x tLx
                go_wp2
                exact ⟨⟨k+1,by simp,by omega,by omega,Bw5⟩,by simp [intOf];omega⟩
            · have hkl2:¬ (k:Int)<(m:Int)∨((k:Int)<(m:Int)∧¬ (k:Int)<6):=by omega
              clear hkl
              rcases hkl2 with hkl|⟨hkl,hkl6⟩
              all_goals go_wp2
              all_goals exact ⟨⟨j+1,by simp,by omega,by omega,Bwk⟩,by simp [intOf];omega⟩
        · have hWJ:Hid (∃ vp pv,HW wj w1.heap.size (w1.heap.size+1) w1.heap.size (wld (l.take i)) vp pv):=by obtain ⟨vp,pv,hw⟩:=hHW.out;exact ⟨vp,pv,hw.below hBj.out⟩
          have hBW:Hid (Below w1.heap.size w1 wj):=bstep hB.out hBj.out
          have hjl2:¬ (j:Int)<(m:Int)∨((j:Int)<(m:Int)∧¬ (j:Int)<6):=by omega
          clear hjl
          by_cases hiL:i<L
          · have hiI:(i:Int)<(L:Int):=by omega
            obtain ⟨c,hc⟩:∃ c,l[i]?=some c:=⟨_,List.getElem?_eq_getElem (by rw [HL.out];exact hiL)⟩
            obtain ⟨bk,o,rfl,hbk,hcl⟩:=HI.out (fun e=>by rw [e] at hc;simp at hc)
            obtain ⟨vi,vm,hcell,hin⟩:=hcl i c hc
            have bel:Below W.heap.size W wj:=bstep B1.out hBW.out
            have p0:wj.cell? ⟨bk,o+i * 6,none⟩=some (.string c.nm):=(bel.cell (p:=⟨bk,o+i * 6,none⟩) hbk).trans (hcell 0 _ rfl)
            have p1:wj.cell? ⟨bk,o+i * 6+1,none⟩=some (.string c.su):=(bel.cell (p:=⟨bk,o+i * 6+1,none⟩) hbk).trans (hcell 1 _ rfl)
            have p2:wj.cell? ⟨bk,o+i * 6+2,none⟩=some vi:=(bel.cell (p:=⟨bk,o+i * 6+2,none⟩) hbk).trans (hcell 2 _ rfl)
            have p3:wj.cell? ⟨bk,o+i * 6+3,none⟩=some (.int .i64 c.fl):=(bel.cell (p:=⟨bk,o+i * 6+3,none⟩) hbk).trans (hcell 3 _ rfl)
            have p4:wj.cell? ⟨bk,o+i * 6+4,none⟩=some (.int .i64 c.ld):=(bel.cell (p:=⟨bk,o+i * 6+4,none⟩) hbk).trans (hcell 4 _ rfl)
            have p5:wj.cell? ⟨bk,o+i * 6+5,none⟩=some vm:=(bel.cell (p:=⟨bk,o+i * 6+5,none⟩) hbk).trans (hcell 5 _ rfl)
            have hWI:WI (wld (l.take i)):=wld_wi _ hcw
            have HD:Hid (Calls Tryz.prog 40 #[.pointer (some ⟨w1.heap.size+1,0,none⟩),.agg #[.string c.nm,.string c.su,vi,.int .i64 c.fl,.int .i64 c.ld,vm]] wj fun e w'=>(∃ u,e=.returned u)∧Hid (∃ vp pv,HW w' w1.heap.size (w1.heap.size+1) w1.heap.size (wld (l.take (i+1))) vp pv)∧Hid (Below w1.heap.size w1 w')):=by
              obtain ⟨vp,pv,hw⟩:=hWJ.out
              refine (define_any w1.heap.size (w1.heap.size+1) w1.heap.size _ vp pv c vi vm wj hw hBW.out.size (hin.keep bel) hWI.nm).mono ?_
              rintro e w' ⟨rfl,hw',hb',_⟩
              rw [wld_at hc]
              exact ⟨⟨_,rfl⟩,hw',hBW.out.trans hb'⟩
            clear hcl hcell hin hc bel hWI hHW hB HI hcw hWJ hBW
            rcases hjl2 with hjl|⟨hjl,hjl6⟩
            all_goals go_wp2_with (go_at_call 40;refine HD.out.mono ?_;rintro e w3 ⟨⟨u3,rfl⟩,hw3,hb3⟩;clear HD)
            all_goals exact ⟨⟨i+1,by simp,by omega,by omega,hw3,hb3⟩,by simp [intOf];omega⟩
          · have hiI:¬ (i:Int)<(L:Int):=by omega
            have hWK:Hid (∃ vp pv,HW wj w1.heap.size (w1.heap.size+1) w1.heap.size (wld (l.take (i+1))) vp pv):=by
              have e:l.take (i+1)=l.take i:=by rw [List.take_of_length_le (by rw [HL.out];omega),List.take_of_length_le (by rw [HL.out];omega)]
              rw [e];exact hWJ
            clear hHW hB HI hcw hWJ
            rcases hjl2 with hjl|⟨hjl,hjl6⟩
            all_goals go_wp2
            all_goals exact ⟨⟨i+1,by simp,by omega,by omega,hWK,hBW⟩,by simp [intOf];omega⟩
    · have hlt2:¬ (i:Int)≤(L:Int)∨((i:Int)≤(L:Int)∧¬ (i:Int)<12):=by omega
      clear hlt hHW HI
      rcases hlt2 with hlt|⟨hlt,hlt12⟩
      all_goals go_wp2
      all_goals exact bodyPost_ret (results_tmp rfl _ _ _) rfl ⟨rfl,bstep B1.out hB.out⟩
end Go.Proofs.YtkclpcmkplbclaaGreat
