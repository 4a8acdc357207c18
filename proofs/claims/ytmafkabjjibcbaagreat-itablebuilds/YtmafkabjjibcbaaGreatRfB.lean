import Derived.Test.YtmafkabjjibcbaaGreatSeG
set_option maxHeartbeats 16000000
set_option maxRecDepth 100000
namespace Go.Proofs.YtmafkabjjibcbaaGreat
open Go.RowKit Go.Maps
def mkC (F:Int×Int→(Int×Int)×Int) (R:List (Int×Int)) (i a b c d:Nat):Prop:=a=(R.take i).countP (fun y=>(F y).2 == 0)∧b=(R.take i).countP (fun y=>(F y).2 == 24)∧c=(R.take i).countP (fun y=>(F y).2 == 23)∧d=(R.take i).countP (fun y=>(F y).2 == 22)
theorem mkC_next {F:Int×Int→(Int×Int)×Int} {R:List (Int×Int)} {i a b c d:Nat} (h:mkC F R i a b c d) {y:Int×Int} (hy:R[i]?=some y):mkC F R (i+1) (a+if (F y).2=0 then 1 else 0) (b+if (F y).2=24 then 1 else 0) (c+if (F y).2=23 then 1 else 0) (d+if (F y).2=22 then 1 else 0):=by
 obtain ⟨h1,h2,h3,h4⟩:=h
 have e:R.take (i+1)=R.take i++[y]:=by rw [List.take_add_one,hy];rfl
 rw [mkC,e,List.countP_append,List.countP_append,List.countP_append,List.countP_append,← h1,← h2,← h3,← h4]
 simp [List.countP_cons]
theorem blk4x {w:World} {n:Nat} {t:TypeId} {a0 a1 a2 a3:Value} (h:w.heap[n]?=some (.cells #[a0,a1,a2,a3] t (0,0))) (v:Value):(w.setCell ⟨n,0,none⟩ v).heap[n]?=some (.cells #[v,a1,a2,a3] t (0,0))∧(w.setCell ⟨n,1,none⟩ v).heap[n]?=some (.cells #[a0,v,a2,a3] t (0,0))∧(w.setCell ⟨n,2,none⟩ v).heap[n]?=some (.cells #[a0,a1,v,a3] t (0,0))∧(w.setCell ⟨n,3,none⟩ v).heap[n]?=some (.cells #[a0,a1,a2,v] t (0,0)) :=
 ⟨(Go.Joins.block_setCell (i:=0) h v).trans (by simp),(Go.Joins.block_setCell (i:=1) h v).trans (by simp),(Go.Joins.block_setCell (i:=2) h v).trans (by simp),(Go.Joins.block_setCell (i:=3) h v).trans (by simp)⟩
theorem marks_x (W:World) (b:Nat) (x:Int) (R:List (Int×Int)) (n:Nat) (HR:Hid (R.length=n)) (hn:n≤301000000) (F:Int×Int→(Int×Int)×Int)
 (HRT:Hid (Calls Tryz.prog 12 #[.pointer (some ⟨b,0,none⟩),.int .i64 x] W fun e w'=>(∃ v,e=.returned (.tuple #[v,.int .i64 0])∧w'.ownsRow W.heap.size 38 2 v n (Zf R))∧Bw W w'))
 (HE:Hid (∀ (y:Int×Int) w,Bw W w→Calls Tryz.prog 60 #[.pointer (some ⟨b,0,none⟩),.int .i64 x,.agg #[.int .i64 y.1,.int .i64 y.2]] w fun e w'=>e=.returned (.tuple #[.agg #[.int .i64 (F y).1.1,.int .i64 (F y).1.2],.int .i64 (F y).2])∧Bw w w'))
 (HF:Hid (∀ y∈R,(F y).2=0∨(F y).2=24∨(F y).2=23∨(F y).2=22)) :
 Calls Tryz.prog 17 #[.pointer (some ⟨b,0,none⟩),.int .i64 x] W fun e w'=>(∃ a b c d:Nat,e=.returned (.tuple #[.int .i64 (a:Int),.int .i64 (b:Int),.int .i64 (c:Int),.int .i64 (d:Int),.int .i64 0])∧Hid (mkC F R n a b c d))∧Bw W w':=by
 go_enter Tryz.func17,Tryz.ntmps17
 go_wp2_with (first
  | (go_at_call 12;refine HRT.out.mono ?_;rintro e w1 ⟨⟨v,rfl,ho⟩,hb⟩;obtain ⟨ra,rc,rfl⟩:=ownv ho;have O1:Hid (w1.ownsRow W.heap.size 38 2 (.slice ra n rc) n (Zf R)):=ho;have B1:Hid (Bw W w1):=hb;clear ho hb HRT))
 go_loopw [27] (fun kv wr=>∃ (i a b4 c d:Nat),kv=.int .i64 i∧i≤n∧a+b4+c+d=i∧Hid (mkC F R i a b4 c d)∧Hid (Bw w1 wr)∧Hid (wr.heap[w1.heap.size]?=some (.cells #[.int .i64 (a:Int),.int .i64 (b4:Int),.int .i64 (c:Int),.int .i64 (d:Int)] 105 (0,0)))) (fun kv _=>n - (intOf kv).toNat)
 case atStart=>exact ⟨0,0,0,0,0,rfl,Nat.zero_le _,rfl,(by rw [Hid];simp [mkC]),(Below.refl _ _).alloc (Nat.le_refl _) _,Zm _ _⟩
 case round =>
  obtain ⟨i,a,b4,c,d,rfl,hi,hsum,HC,hB,ccB⟩:=hrel
  obtain ⟨cc0,cc1,cc2,cc3,ccf,ccL⟩:=rw4 ccB.out
  have ccN:¬ w1.heap.size=wr.heap.size:=by omega
  by_cases hlt:i<n
  ·have hiI:(i:Int)<(n:Int):=by omega
   obtain ⟨y,hy⟩:∃ y,R[i]?=some y:=⟨_,List.getElem?_eq_getElem (by rw [HR.out];exact hlt)⟩
   obtain ⟨g,c2,hform,_,hgl,hcs⟩:=Qh O1.out (by omega)
   injection hform with hca _ hcc
   subst hca hcc
   obtain ⟨f0,f1⟩:=Zbl R i y hy
   have t0:=(hB.out.cell (p:=⟨g,i * 2,none⟩) hgl).trans (hcs _ _ f0)
   have t1:=(hB.out.cell (p:=⟨g,i * 2+1,none⟩) hgl).trans (hcs _ _ f1)
   have hF:=HF.out y (List.mem_of_getElem? hy)
   have HEy:=HE.out y
   have hN:=mkC_next HC.out hy
   obtain ⟨y1,y2⟩:=y
   simp only at t0 t1 HEy
   generalize F (y1,y2)=ff at *
   obtain ⟨⟨m1,m2⟩,er⟩:=ff
   simp only at hF HEy hN
   have HEH:Hid (∀ w,Bw W w→Calls Tryz.prog 60 #[.pointer (some ⟨b,0,none⟩),.int .i64 x,.agg #[.int .i64 y1,.int .i64 y2]] w fun e w'=>e=.returned (.tuple #[.agg #[.int .i64 m1,.int .i64 m2],.int .i64 er])∧Bw w w'):=HEy
   clear hy f0 f1 hcs HEy HE HR HF HC
   rcases hF with rfl|rfl|rfl|rfl
   ·have HN:Hid (mkC F R (i+1) (a+1) b4 c d):=by rw [Hid];simpa using hN
    clear hN
    go_wp2_with (go_at_call 60;refine (HEH.out _ (Za B1.out (hB.out.alloc hB.out.size _))).mono ?_;rintro e w3 ⟨rfl,hb⟩;have ccd:=kp4 (n:=w1.heap.size) hb;(try clear ccB cc0 cc1 cc2 cc3 ccf ccL ccN);obtain ⟨ccB,cc0,cc1,cc2,cc3,ccf,ccL,ccN⟩:=ccd;have B3:Hid (Bw w1 w3):=Za (hB.out.alloc hB.out.size _) hb;clear hb HEH)
    go_roundw
    case rel=>exact ⟨i+1,a+1,b4,c,d,by go_num,by omega,by omega,HN,(by repeat (first|refine Below.setCell ?_ (by first|exact Nat.le_refl _|(simp;done)) _|refine Below.alloc ?_ (by first|exact B3.out.size|(simp;exact B3.out.size)) _|exact B3.out)),Zg ((blk4x ccB.out _).1)⟩
    case measure=>simp [intOf];omega
   ·have HN:Hid (mkC F R (i+1) a (b4+1) c d):=by rw [Hid];simpa using hN
    clear hN
    go_wp2_with (go_at_call 60;refine (HEH.out _ (Za B1.out (hB.out.alloc hB.out.size _))).mono ?_;rintro e w3 ⟨rfl,hb⟩;have ccd:=kp4 (n:=w1.heap.size) hb;(try clear ccB cc0 cc1 cc2 cc3 ccf ccL ccN);obtain ⟨ccB,cc0,cc1,cc2,cc3,ccf,ccL,ccN⟩:=ccd;have B3:Hid (Bw w1 w3):=Za (hB.out.alloc hB.out.size _) hb;clear hb HEH)
    go_roundw
    case rel=>exact ⟨i+1,a,b4+1,c,d,by go_num,by omega,by omega,HN,(by repeat (first|refine Below.setCell ?_ (by first|exact Nat.le_refl _|(simp;done)) _|refine Below.alloc ?_ (by first|exact B3.out.size|(simp;exact B3.out.size)) _|exact B3.out)),Zg ((blk4x ccB.out _).2.1)⟩
    case measure=>simp [intOf];omega
   ·have HN:Hid (mkC F R (i+1) a b4 (c+1) d):=by rw [Hid];simpa using hN
    clear hN
    go_wp2_with (go_at_call 60;refine (HEH.out _ (Za B1.out (hB.out.alloc hB.out.size _))).mono ?_;rintro e w3 ⟨rfl,hb⟩;have ccd:=kp4 (n:=w1.heap.size) hb;(try clear ccB cc0 cc1 cc2 cc3 ccf ccL ccN);obtain ⟨ccB,cc0,cc1,cc2,cc3,ccf,ccL,ccN⟩:=ccd;have B3:Hid (Bw w1 w3):=Za (hB.out.alloc hB.out.size _) hb;clear hb HEH)
    go_roundw
    case rel=>exact ⟨i+1,a,b4,c+1,d,by go_num,by omega,by omega,HN,(by repeat (first|refine Below.setCell ?_ (by first|exact Nat.le_refl _|(simp;done)) _|refine Below.alloc ?_ (by first|exact B3.out.size|(simp;exact B3.out.size)) _|exact B3.out)),Zg ((blk4x ccB.out _).2.2.1)⟩
    case measure=>simp [intOf];omega
   ·have HN:Hid (mkC F R (i+1) a b4 c (d+1)):=by rw [Hid];simpa using hN
    clear hN
    go_wp2_with (go_at_call 60;refine (HEH.out _ (Za B1.out (hB.out.alloc hB.out.size _))).mono ?_;rintro e w3 ⟨rfl,hb⟩;have ccd:=kp4 (n:=w1.heap.size) hb;(try clear ccB cc0 cc1 cc2 cc3 ccf ccL ccN);obtain ⟨ccB,cc0,cc1,cc2,cc3,ccf,ccL,ccN⟩:=ccd;have B3:Hid (Bw w1 w3):=Za (hB.out.alloc hB.out.size _) hb;clear hb HEH)
    go_roundw
    case rel=>exact ⟨i+1,a,b4,c,d+1,by go_num,by omega,by omega,HN,(by repeat (first|refine Below.setCell ?_ (by first|exact Nat.le_refl _|(simp;done)) _|refine Below.alloc ?_ (by first|exact B3.out.size|(simp;exact B3.out.size)) _|exact B3.out)),Zg ((blk4x ccB.out _).2.2.2)⟩
    case measure=>simp [intOf];omega
  ·have e:i=n:=by omega
   subst e
   go_wp2
   go_region
   go_wp2
   exact bodyPost_ret (v:=.tuple #[.int .i64 (a:Int),.int .i64 (b4:Int),.int .i64 (c:Int),.int .i64 (d:Int),.int .i64 0]) (by simp [results,Tryz.results17,go_sem, *]) rfl ⟨⟨a,b4,c,d,rfl,HC⟩,B1.out.trans ((hB.out.drew).mono B1.out.size)⟩
theorem marks_xn {b:Nat} {ps:List Plc} {W:World} (h:WAt b ps W) (hW:WI ps) (x:Int) (hx:¬ itE ps x=0):Calls Tryz.prog 17 #[.pointer (some ⟨b,0,none⟩),.int .i64 x] W fun e w'=>e=.returned (.tuple #[.int .i64 0,.int .i64 0,.int .i64 0,.int .i64 0,.int .i64 (itE ps x)])∧Bw W w':=by
 have HCO:Hid (Calls Tryz.prog 12 #[.pointer (some ⟨b,0,none⟩),.int .i64 x] W fun e w'=>e=.returned (.tuple #[.slice none 0 0,.int .i64 (itE ps x)])∧Bw W w'):=Zdy h hW x hx
 generalize itE ps x=E at *
 have hE:(E == 0)=false:=by simp [hx]
 clear h hW
 go_enter Tryz.func17,Tryz.ntmps17
 go_wp2_with (go_at_call 12;refine HCO.out.mono ?_;rintro e w1 ⟨rfl,hb⟩;have B1:Hid (Bw W w1):=hb;clear hb HCO)
 exact bodyPost_ret (v:=.tuple #[.int .i64 0,.int .i64 0,.int .i64 0,.int .i64 0,.int .i64 E]) (by simp [results,Tryz.results17,go_sem, *]) rfl ⟨rfl,B1.out⟩
theorem marks_xy {b:Nat} {ps:List Plc} {W:World} (h:WAt b ps W) (hW:WI ps) (k:Nat) (q:Plc) (hq:ps[k]?=some q) (hf:ifcI ps (k:Int)=false):Calls Tryz.prog 17 #[.pointer (some ⟨b,0,none⟩),.int .i64 (k:Int)] W fun e w'=>(∃ a b c d:Nat,e=.returned (.tuple #[.int .i64 (a:Int),.int .i64 (b:Int),.int .i64 (c:Int),.int .i64 (d:Int),.int .i64 0])∧Hid (mkC (itfI ps (k:Int)) (rtsP ps q) (rtsP ps q).length a b c d))∧Bw W w' :=
 marks_x W b (k:Int) (rtsP ps q) _ rfl (Zgy hW hq) (itfI ps (k:Int)) (Zbt h hW k q hq hf) (fun y w hb=>seI_c (h.below hb) hW (k:Int) y.1 y.2) (fun y hy=>by
  obtain ⟨m,hm⟩:=rts_meth hy
  exact itf_errs hq hf hm)
theorem Zew (ps:List Plc) (x e:Int):cntE (itT ps x) e=(rtsR ps x).countP (fun y=>(itfI ps x y).2 == e):=by
 rw [cntE,itT,List.countP_map]
 rfl
theorem marks_xc {b:Nat} {ps:List Plc} {W:World} (h:WAt b ps W) (hW:WI ps) (x:Int):Calls Tryz.prog 17 #[.pointer (some ⟨b,0,none⟩),.int .i64 x] W fun e w'=>e=.returned (.tuple #[.int .i64 (cntE (itT ps x) 0:Int),.int .i64 (cntE (itT ps x) 24:Int),.int .i64 (cntE (itT ps x) 23:Int),.int .i64 (cntE (itT ps x) 22:Int),.int .i64 (itE ps x)])∧Bw W w':=by
 rcases Zbj ps x with ⟨h0,k,q,rfl,hq,hf,hR⟩|⟨hR,h0⟩
 ·refine (marks_xy h hW k q hq hf).mono fun e w' zz=>⟨?_,zz.2⟩
  obtain ⟨⟨a,b',c,d,e1,hm⟩,_⟩:=zz
  obtain ⟨h1,h2,h3,h4⟩:=hm.out
  rw [List.take_length] at h1 h2 h3 h4
  rw [e1,h0,Zew,Zew,Zew,Zew,hR,← h1,← h2,← h3,← h4]
 ·refine (marks_xn h hW x (by omega)).mono fun e w' zz=>⟨?_,zz.2⟩
  rw [zz.1,itT,hR]
  rfl
theorem has10c (f:Int):hasI f 10=(hasI f 2||hasI f 8):=by
 have e10:bits .and .i64 f 10=IntKind.wrap .i64 (((BitVec.ofInt 64 f).toNat &&& 10:Nat):Int):=rfl
 have e2:bits .and .i64 f 2=IntKind.wrap .i64 (((BitVec.ofInt 64 f).toNat &&& 2:Nat):Int):=rfl
 have e8:bits .and .i64 f 8=IntKind.wrap .i64 (((BitVec.ofInt 64 f).toNat &&& 8:Nat):Int):=rfl
 have h:(BitVec.ofInt 64 f).toNat &&& 10=((BitVec.ofInt 64 f).toNat &&& 2) ||| ((BitVec.ofInt 64 f).toNat &&& 8):=by
  rw [← Nat.and_or_distrib_left];rfl
 unfold hasI
 rw [e10,e2,e8,h]
 have h2:(BitVec.ofInt 64 f).toNat &&& 2≤2:=Nat.and_le_right
 have h2':((BitVec.ofInt 64 f).toNat &&& 2) &&& 2=(BitVec.ofInt 64 f).toNat &&& 2:=by rw [Nat.and_assoc,Nat.and_self]
 have h8:(BitVec.ofInt 64 f).toNat &&& 8≤8:=Nat.and_le_right
 have h8':((BitVec.ofInt 64 f).toNat &&& 8) &&& 8=(BitVec.ofInt 64 f).toNat &&& 8:=by rw [Nat.and_assoc,Nat.and_self]
 generalize (BitVec.ofInt 64 f).toNat &&& 2=a at *
 generalize (BitVec.ofInt 64 f).toNat &&& 8=b at *
 have ha:a=0∨a=2:=by
  have:a=0∨a=1∨a=2:=by omega
  rcases this with rfl|rfl|rfl
  ·exact .inl rfl
  ·exact absurd h2' (by decide)
  ·exact .inr rfl
 have hb:b=0∨b=8:=by
  have:b=0∨b=1∨b=2∨b=3∨b=4∨b=5∨b=6∨b=7∨b=8:=by omega
  rcases this with rfl|rfl|rfl|rfl|rfl|rfl|rfl|rfl|rfl
  ·exact .inl rfl
  all_goals first|exact .inr rfl|exact absurd h8' (by decide)
 rcases ha with rfl|rfl <;> rcases hb with rfl|rfl <;> decide
theorem bitz (f k:Int):(bits .and .i64 f k == 0)=!hasI f k:=by
 rw [hasI]
 cases hz:(bits .and .i64 f k == 0) <;> simp_all
theorem top_has (m:HM):topB m=((hasI m.fl 1&&!hasI m.fl 8)&&!(m.nm.toList == [60,105,110,105,116,62])):=by rw [topB,bitz];rfl
theorem iro_has (m:HM):iroB m=(!hasI m.fl 2&&!hasI m.fl 8):=by
 rw [iroB,bitz,has10c]
 cases hasI m.fl 2 <;> cases hasI m.fl 8 <;> rfl
theorem fm_len (MS:Nat→List HM):∀ l:List Nat,(∀ k∈l,(MS k).length≤1000000)→(l.flatMap (fun k:Nat=>rtK iroB (k:Int) (MS k) 0)).length≤l.length * 1000000
 | [],_=>Nat.zero_le _
 | x::r,h=>by
   rw [List.flatMap_cons,List.length_append,List.length_cons]
   have h1:=Xi iroB (x:Int) (MS x) 0
   have h2:=h x (List.mem_cons_self ..)
   have h3:=fm_len MS r (fun k hk=>h k (List.mem_cons_of_mem _ hk))
   omega
theorem r14r_w (W:World) (b g CL cap:Nat) (am:Option Addr) (n0 cm:Nat) (ms:List HM) (MS:Nat→List HM) (C:List Nat) (K k:Nat)
 (b0:W.cell? ⟨b,0,none⟩=some (.slice (some ⟨g,0,none⟩) CL cap)) (hbl:b<W.heap.size) (hgl:g<W.heap.size) (hCL:(0:Int)<(CL:Int)) (c5:W.cell? ⟨g,5,none⟩=some (.slice am n0 cm)) (hn0:n0≤1000000) (HNL:Hid (ms.length=n0)) (HCL:Hid (C.length=K)) (hK:K≤300)
 (HM0:Hid (∀ (i:Nat) (m:HM),ms[i]?=some m→∃ bk o sa sn sc,am=some ⟨bk,o,none⟩∧bk<W.heap.size∧W.cell? ⟨bk,o+i * 6,none⟩=some (.string m.nm)∧W.cell? ⟨bk,o+i * 6+1,none⟩=some (.string m.ds)∧W.cell? ⟨bk,o+i * 6+2,none⟩=some (.int .i64 m.fl)∧W.cell? ⟨bk,o+i * 6+3,none⟩=some (.int .i64 m.lo)∧W.cell? ⟨bk,o+i * 6+4,none⟩=some (.int .i64 m.st)∧W.cell? ⟨bk,o+i * 6+5,none⟩=some (.slice sa sn sc)))
 (HMK:Hid (∀ (j kk:Nat),C[j]?=some kk→kk<CL∧(MS kk).length≤1000000∧∃ am cm,W.cell? ⟨g,kk * 6+5,none⟩=some (.slice am (MS kk).length cm)∧∀ (i:Nat) (m:HM),(MS kk)[i]?=some m→∃ bk o,am=some ⟨bk,o,none⟩∧bk<W.heap.size∧W.cell? ⟨bk,o+i * 6+2,none⟩=some (.int .i64 m.fl)))
 (HC:Hid (Calls Tryz.prog 51 #[.pointer (some ⟨b,0,none⟩),.int .i64 (k:Int)] W fun e w'=>(∃ v,e=.returned (.tuple #[v,.int .i64 0])∧w'.ownsRow W.heap.size 3 1 v K (C.map numV))∧Bw W w'))
 (HF:Hid (∀ w,Bw W w→Calls Tryz.prog 61 #[.pointer (some ⟨b,0,none⟩),.int .i64 (k:Int)] w fun e w'=>e=.returned (.bool false)∧w'=w)) :
 Calls Tryz.prog 18 #[.pointer (some ⟨b,0,none⟩),.int .i64 (k:Int)] W fun e w'=>(∃ v,e=.returned (.tuple #[v,.int .i64 0])∧w'.ownsRow W.heap.size 38 2 v (rtK topB 0 ms 0++C.flatMap (fun k:Nat=>rtK iroB (k:Int) (MS k) 0)).length (Zf (rtK topB 0 ms 0++C.flatMap (fun k:Nat=>rtK iroB (k:Int) (MS k) 0))))∧Bw W w':=by
 obtain ⟨i0,hi0,hz0,hz1,hz2⟩:=info_parts Tryz.hinfoD
 have B0:Hid (W.cell? ⟨b,0,none⟩=some (.slice (some ⟨g,0,none⟩) CL cap)):=b0
 have C5:Hid (W.cell? ⟨g,5,none⟩=some (.slice am n0 cm)):=c5
 clear b0 c5
 go_enter Tryz.func18,Tryz.ntmps18
 go_wp2_with (first
  | (go_at_call 51;refine HC.out.mono ?_;rintro e V ⟨⟨v0,rfl,ho⟩,hb⟩;obtain ⟨ca,cc,rfl⟩:=ownv ho;have RC:Hid (V.ownsRow W.heap.size 3 1 (.slice ca K cc) K (C.map numV)):=ho;have BV:Hid (Bw W V):=hb;clear ho hb HC)
  | (go_at_call 61;refine (HF.out _ BV.out).mono ?_;rintro e w9 ⟨rfl,hw9⟩;rw [hw9];clear hw9 w9 HF))
 go_loopw [8,9] (fun sv iv wr=>∃ i:Nat,iv=.int .i64 i∧i≤n0∧Hid (wr.ownsRow V.heap.size 38 2 sv (rtK topB 0 (ms.take i) 0).length (Zf (rtK topB 0 (ms.take i) 0)))∧Hid (Bw V wr)) (fun _ iv _=>n0 - (intOf iv).toNat)
 case atStart=>exact ⟨0,rfl,Nat.zero_le _,World.ownsRow_nil _ _ _ _,Below.refl _ _⟩
 case round =>
  obtain ⟨i,rfl,hi,hO,hB⟩:=hrel
  have bW:Bw W wr:=Za BV.out hB.out
  have b0:wr.cell? ⟨b,0,none⟩=some (.slice (some ⟨g,0,none⟩) CL cap):=(bW.cell (p:=⟨b,0,none⟩) hbl).trans B0.out
  have c5:wr.cell? ⟨g,5,none⟩=some (.slice am n0 cm):=(bW.cell (p:=⟨g,5,none⟩) hgl).trans C5.out
  have hbr:b<wr.heap.size:=Nat.lt_of_lt_of_le hbl bW.size
  have hgr:g<wr.heap.size:=Nat.lt_of_lt_of_le hgl bW.size
  by_cases hlt:i<n0
  ·have hiI:(i:Int)<(n0:Int):=by omega
   obtain ⟨m,hm⟩:∃ m,ms[i]?=some m:=⟨_,List.getElem?_eq_getElem (by rw [HNL.out];exact hlt)⟩
   obtain ⟨bk,o,sa,sn,sc,rfl,hbk,f0,f1,f2,f3,f4,f5⟩:=HM0.out i m hm
   have hbkr:bk<wr.heap.size:=Nat.lt_of_lt_of_le hbk bW.size
   have e0:wr.cell? ⟨bk,o+i * 6,none⟩=some (.string m.nm):=(bW.cell (p:=⟨bk,o+i * 6,none⟩) hbk).trans f0
   have e1:wr.cell? ⟨bk,o+i * 6+1,none⟩=some (.string m.ds):=(bW.cell (p:=⟨bk,o+i * 6+1,none⟩) hbk).trans f1
   have e2:wr.cell? ⟨bk,o+i * 6+2,none⟩=some (.int .i64 m.fl):=(bW.cell (p:=⟨bk,o+i * 6+2,none⟩) hbk).trans f2
   have e3:wr.cell? ⟨bk,o+i * 6+3,none⟩=some (.int .i64 m.lo):=(bW.cell (p:=⟨bk,o+i * 6+3,none⟩) hbk).trans f3
   have e4:wr.cell? ⟨bk,o+i * 6+4,none⟩=some (.int .i64 m.st):=(bW.cell (p:=⟨bk,o+i * 6+4,none⟩) hbk).trans f4
   have e5:wr.cell? ⟨bk,o+i * 6+5,none⟩=some (.slice sa sn sc):=(bW.cell (p:=⟨bk,o+i * 6+5,none⟩) hbk).trans f5
   have HST:Hid (rtK topB 0 (ms.take (i+1)) 0=(rtK topB 0 (ms.take i) 0)++(if topB m then [((0:Int),(i:Int))] else [])):=by
    show _=_
    rw [List.take_add_one,hm,Option.toList_some,Zbc,List.length_take,Nat.min_eq_left (by rw [HNL.out];omega),Nat.zero_add]
   have hll:(rtK topB 0 (ms.take i) 0).length≤400000000:=by
    have h1:=Xi topB 0 (ms.take i) 0
    rw [List.length_take] at h1
    omega
   obtain ⟨LS,hLS⟩:∃ LS,(rtK topB 0 (ms.take i) 0)=LS:=⟨_,rfl⟩
   rw [hLS] at hO HST hll
   obtain ⟨la,lc,rfl⟩:=ownv hO.out
   have H1:Hid (∀ w:World,Calls Tryz.prog 62 #[.int .i64 m.fl,.int .i64 1] w fun e w'=>e=.returned (.bool (hasI m.fl 1))∧w'=w):=Zv m.fl 1
   have H8:Hid (∀ w:World,Calls Tryz.prog 62 #[.int .i64 m.fl,.int .i64 8] w fun e w'=>e=.returned (.bool (hasI m.fl 8))∧w'=w):=Zv m.fl 8
   rw [top_has] at HST
   obtain ⟨ini,hin⟩:∃ ini,(m.nm.toList == [60,105,110,105,116,62])=ini:=⟨_,rfl⟩
   rw [hin] at HST
   have hU0:(wr.alloc (.cells #[.string m.nm,.string m.ds,.int .i64 m.fl,.int .i64 m.lo,.int .i64 m.st,.slice sa sn sc] 87)).heap[wr.heap.size]?=some (.cells #[.string m.nm,.string m.ds,.int .i64 m.fl,.int .i64 m.lo,.int .i64 m.st,.slice sa sn sc] 87 (0,0)):=Zm _ _
   have hUs:(wr.alloc (.cells #[.string m.nm,.string m.ds,.int .i64 m.fl,.int .i64 m.lo,.int .i64 m.st,.slice sa sn sc] 87)).heap.size=wr.heap.size+1:=by simp
   have OU:Hid ((wr.alloc (.cells #[.string m.nm,.string m.ds,.int .i64 m.fl,.int .i64 m.lo,.int .i64 m.st,.slice sa sn sc] 87)).ownsRow V.heap.size 38 2 (.slice la LS.length lc) LS.length (Zf LS)):=hO.out.alloc _
   have BU:Hid (Bw V (wr.alloc (.cells #[.string m.nm,.string m.ds,.int .i64 m.fl,.int .i64 m.lo,.int .i64 m.st,.slice sa sn sc] 87))):=hB.out.alloc hB.out.size _
   clear hLS hm f0 f1 f2 f3 f4 f5 bW
   generalize hasI m.fl 1=h1 at *
   generalize hasI m.fl 8=h8 at *
   go_upto_region 11 with fail
   generalize (wr.alloc (.cells #[.string m.nm,.string m.ds,.int .i64 m.fl,.int .i64 m.lo,.int .i64 m.st,.slice sa sn sc] 87))=U at *
   obtain ⟨u0,u1,u2,u3,u4,u5,uf,uL⟩:=rw6 hU0
   clear hU0 hUs b0 c5 e0 e1 e2 e3 e4 e5
   cases h1
   case' true=>cases h8
   case' true.false=>cases ini
   case true.false.false =>
    go_wp2_with (first|(go_at_call 62;refine (H1.out _).mono ?_;rintro e w9 ⟨rfl,hw9⟩;rw [hw9];clear hw9 w9 H1)|(go_at_call 62;refine (H8.out _).mono ?_;rintro e w9 ⟨rfl,hw9⟩;rw [hw9];clear hw9 w9 H8)|(at_builtin;refine wpList_append_own _ rfl _ _ 30 rfl V.heap.size 38 i0 (.agg #[.int .i64 0,.int .i64 0]) 2 16 Tryz.underlying30 hi0 hz0 hz1 hz2 rfl (by decide) (.slice la LS.length lc) LS.length (Zf LS) rfl (OU.out.alloc _) ⟨U.heap.size,0,none⟩ 1 1 [.int .i64 0,.int .i64 (i:Int)] rfl rfl ?c1 ?c2 ?c3 ?c4 ?c5 ?_))
    case c1=>exact World.news_of_block (cs:=#[.int .i64 0,.int .i64 (i:Int)]) (Zm _ _)
    case c2=>intro u hu;simp at hu;rcases hu with rfl|rfl <;> rfl
    case c3=>unfold maxLen;omega
    case c4=>omega
    case c5=>have:=BU.out.size;simp;omega
    intro v5 w5 hown hgrow _
    have hb5:Hid (Bw V w5):=by
     refine Below.grown (BU.out.alloc BU.out.size _) hgrow (by have:=BU.out.size;simp;omega) (fun z hz=>?_)
     exact (hO.out.lt z hz).1
    go_wp2
    exact ⟨⟨i+1,by simp,by omega,(by have e:=HST.out;simp only [Bool.not_false,Bool.and_self,↓reduceIte] at e;rw [e,List.length_append,List.length_singleton,Y2];exact hown),hb5⟩,by simp [intOf];omega⟩
   all_goals
    go_wp2_with (first|(go_at_call 62;refine (H1.out _).mono ?_;rintro e w9 ⟨rfl,hw9⟩;rw [hw9];clear hw9 w9 H1)|(go_at_call 62;refine (H8.out _).mono ?_;rintro e w9 ⟨rfl,hw9⟩;rw [hw9];clear hw9 w9 H8))
    exact ⟨⟨i+1,by simp,by omega,(by have e:=HST.out;simp at e;rw [e];exact OU),BU⟩,by simp [intOf];omega⟩
  ·have e:i=n0:=by omega
   subst e
   rw [List.take_of_length_le (by rw [HNL.out];exact Nat.le_refl _)] at hO
   obtain ⟨n0,rfl⟩:∃ n0,n0=i:=⟨_,rfl⟩
   obtain ⟨w1,hw1⟩:∃ w1,w1=wr:=⟨_,rfl⟩
   subst hw1
   go_wp2
   clear b0 c5
   have hL0:(rtK topB 0 ms 0).length≤1000000:=by
    have h1:=Xi topB 0 ms 0
    rw [HNL.out] at h1
    omega
   go_loopw [8,11] (fun sv qv wr=>∃ q:Nat,qv=.int .i64 q∧q≤K∧Hid (wr.ownsRow V.heap.size 38 2 sv (rtK topB 0 ms 0++(C.take q).flatMap (fun k:Nat=>rtK iroB (k:Int) (MS k) 0)).length (Zf (rtK topB 0 ms 0++(C.take q).flatMap (fun k:Nat=>rtK iroB (k:Int) (MS k) 0))))∧Hid (Bw V wr)) (fun _ qv _=>K - (intOf qv).toNat)
   case atStart=>exact ⟨0,rfl,Nat.zero_le _,(by rw [List.take_zero,List.flatMap_nil,List.append_nil];exact hO),hB⟩
   case round =>
    clear hO hB
    obtain ⟨q,rfl,hq,hO,hB⟩:=hrel
    by_cases hlq:q<K
    ·have hqI:(q:Int)<(K:Int):=by omega
     obtain ⟨kk,hkk⟩:∃ kk,C[q]?=some kk:=⟨_,List.getElem?_eq_getElem (by rw [HCL.out];exact hlq)⟩
     obtain ⟨hkC,hnk,ak,ck,d5,hfl⟩:=HMK.out q kk hkk
     have hkI:(kk:Int)<(CL:Int):=by omega
     have HFL:Hid (∀ (i:Nat) (m:HM),(MS kk)[i]?=some m→∃ bk o,ak=some ⟨bk,o,none⟩∧bk<W.heap.size∧W.cell? ⟨bk,o+i * 6+2,none⟩=some (.int .i64 m.fl)):=hfl
     have D5:Hid (W.cell? ⟨g,kk * 6+5,none⟩=some (.slice ak (MS kk).length ck)):=d5
     obtain ⟨g8,c8,hf8,_,hgl8,q8⟩:=Qh RC.out (by omega)
     injection hf8 with ha8 _ hc8
     subst ha8 hc8
     have CQ:Hid (V.cell? ⟨g8,q,none⟩=some (.int .i64 (kk:Int))):=q8 q _ (by rw [List.getElem?_map,hkk];rfl)
     have HSQ:Hid ((C.take (q+1)).flatMap (fun k:Nat=>rtK iroB (k:Int) (MS k) 0)=(C.take q).flatMap (fun k:Nat=>rtK iroB (k:Int) (MS k) 0)++rtK iroB (kk:Int) (MS kk) 0):=by
      show _=_
      rw [List.take_add_one,hkk,Option.toList_some,List.flatMap_append];simp
     have hLq:(rtK topB 0 ms 0++(C.take q).flatMap (fun k:Nat=>rtK iroB (k:Int) (MS k) 0)).length≤301000000:=by
      have h1:=fm_len MS (C.take q) (fun k hk=>by
       obtain ⟨j,hj⟩:=List.mem_iff_getElem?.1 (List.mem_of_mem_take hk)
       exact (HMK.out j k hj).2.1)
      rw [List.length_take] at h1
      rw [List.length_append]
      omega
     clear hfl d5 hkk q8
     obtain ⟨NK,hNK⟩:∃ NK,(MS kk).length=NK:=⟨_,rfl⟩
     have HNK:Hid ((MS kk).length=NK):=hNK
     rw [hNK] at hnk D5
     clear hNK
     obtain ⟨w2,hw2⟩:∃ w2,w2=wr:=⟨_,rfl⟩
     subst hw2
     go_wp2
     go_loopw [8,12] (fun sv iv wr=>∃ i:Nat,iv=.int .i64 i∧i≤NK∧Hid (wr.ownsRow V.heap.size 38 2 sv ((rtK topB 0 ms 0++(C.take q).flatMap (fun k:Nat=>rtK iroB (k:Int) (MS k) 0))++rtK iroB (kk:Int) ((MS kk).take i) 0).length (Zf ((rtK topB 0 ms 0++(C.take q).flatMap (fun k:Nat=>rtK iroB (k:Int) (MS k) 0))++rtK iroB (kk:Int) ((MS kk).take i) 0)))∧Hid (Bw V wr)) (fun _ iv _=>NK - (intOf iv).toNat)
     case atStart=>exact ⟨0,rfl,Nat.zero_le _,(by rw [List.take_zero,rtK,List.append_nil];exact hO),hB⟩
     case round =>
      clear hO hB
      obtain ⟨i,rfl,hi,hO,hB⟩:=hrel
      have bW:Bw W wr:=Za BV.out hB.out
      have b0:wr.cell? ⟨b,0,none⟩=some (.slice (some ⟨g,0,none⟩) CL cap):=(bW.cell (p:=⟨b,0,none⟩) hbl).trans B0.out
      have d5:wr.cell? ⟨g,kk * 6+5,none⟩=some (.slice ak NK ck):=(bW.cell (p:=⟨g,kk * 6+5,none⟩) hgl).trans D5.out
      have cq:wr.cell? ⟨g8,q,none⟩=some (.int .i64 (kk:Int)):=(hB.out.cell (p:=⟨g8,q,none⟩) hgl8).trans CQ.out
      have hbr:b<wr.heap.size:=Nat.lt_of_lt_of_le hbl bW.size
      have hgr:g<wr.heap.size:=Nat.lt_of_lt_of_le hgl bW.size
      have h8r:g8<wr.heap.size:=Nat.lt_of_lt_of_le hgl8 hB.out.size
      by_cases hlt:i<NK
      ·have hiI:(i:Int)<(NK:Int):=by omega
       obtain ⟨m,hm⟩:∃ m,(MS kk)[i]?=some m:=⟨_,List.getElem?_eq_getElem (by rw [HNK.out];exact hlt)⟩
       obtain ⟨bk,o,rfl,hbk,f2⟩:=HFL.out i m hm
       have hbkr:bk<wr.heap.size:=Nat.lt_of_lt_of_le hbk bW.size
       have e2:wr.cell? ⟨bk,o+i * 6+2,none⟩=some (.int .i64 m.fl):=(bW.cell (p:=⟨bk,o+i * 6+2,none⟩) hbk).trans f2
       have HST:Hid (((rtK topB 0 ms 0++(C.take q).flatMap (fun k:Nat=>rtK iroB (k:Int) (MS k) 0))++rtK iroB (kk:Int) ((MS kk).take (i+1)) 0)=((rtK topB 0 ms 0++(C.take q).flatMap (fun k:Nat=>rtK iroB (k:Int) (MS k) 0))++rtK iroB (kk:Int) ((MS kk).take i) 0)++(if iroB m then [((kk:Int),(i:Int))] else [])):=by
        show _=_
        rw [List.take_add_one,hm,Option.toList_some,Zbc,List.length_take,Nat.min_eq_left (by rw [HNK.out];omega),Nat.zero_add,List.append_assoc ((rtK topB 0 ms 0++(C.take q).flatMap (fun k:Nat=>rtK iroB (k:Int) (MS k) 0)))]
       have hll:((rtK topB 0 ms 0++(C.take q).flatMap (fun k:Nat=>rtK iroB (k:Int) (MS k) 0))++rtK iroB (kk:Int) ((MS kk).take i) 0).length≤400000000:=by
        have h1:=Xi iroB (kk:Int) ((MS kk).take i) 0
        rw [List.length_take] at h1
        rw [List.length_append]
        omega
       obtain ⟨LS,hLS⟩:∃ LS,((rtK topB 0 ms 0++(C.take q).flatMap (fun k:Nat=>rtK iroB (k:Int) (MS k) 0))++rtK iroB (kk:Int) ((MS kk).take i) 0)=LS:=⟨_,rfl⟩
       rw [hLS] at hO HST hll
       obtain ⟨la,lc,rfl⟩:=ownv hO.out
       have H2:Hid (∀ w:World,Calls Tryz.prog 62 #[.int .i64 m.fl,.int .i64 2] w fun e w'=>e=.returned (.bool (hasI m.fl 2))∧w'=w):=Zv m.fl 2
       have H8:Hid (∀ w:World,Calls Tryz.prog 62 #[.int .i64 m.fl,.int .i64 8] w fun e w'=>e=.returned (.bool (hasI m.fl 8))∧w'=w):=Zv m.fl 8
       rw [iro_has] at HST
       obtain ⟨MF,hMF⟩:∃ MF,m.fl=MF:=⟨_,rfl⟩
       rw [hMF] at HST H2 H8 e2
       clear hLS hm f2 bW hMF
       generalize hasI MF 2=h2 at *
       generalize hasI MF 8=h8 at *
       go_wp2
       go_region
       go_wp2
       go_region
       cases h2
       case' false=>cases h8
       case false.false =>
        go_wp2_with (first|(go_at_call 62;refine (H2.out _).mono ?_;rintro e w9 ⟨rfl,hw9⟩;rw [hw9];clear hw9 w9 H2)|(go_at_call 62;refine (H8.out _).mono ?_;rintro e w9 ⟨rfl,hw9⟩;rw [hw9];clear hw9 w9 H8)|(at_builtin;refine wpList_append_own _ rfl _ _ 30 rfl V.heap.size 38 i0 (.agg #[.int .i64 0,.int .i64 0]) 2 16 Tryz.underlying30 hi0 hz0 hz1 hz2 rfl (by decide) (.slice la LS.length lc) LS.length (Zf LS) rfl (by repeat (first|exact hO.out|refine World.ownsRow.alloc ?_ _|refine World.ownsRow.drew ?_)) ⟨wr.heap.size,0,none⟩ 1 1 [.int .i64 (kk:Int),.int .i64 (i:Int)] rfl rfl ?c1 ?c2 ?c3 ?c4 ?c5 ?_))
        case c1=>exact World.news_of_block (cs:=#[.int .i64 (kk:Int),.int .i64 (i:Int)]) (Zm _ _)
        case c2=>intro u hu;simp at hu;rcases hu with rfl|rfl <;> rfl
        case c3=>unfold maxLen;omega
        case c4=>omega
        case c5=>have:=hB.out.size;simp;omega
        intro v5 w5 hown hgrow _
        have hb5:Hid (Bw V w5):=by
         refine Below.grown (by repeat (first|refine Below.alloc ?_ (by have:=hB.out.size;simp;try omega) _|refine Below.drew ?_|exact hB.out)) hgrow (by have:=hB.out.size;simp;omega) (fun z hz=>?_)
         exact (hO.out.lt z hz).1
        go_wp2
        exact ⟨⟨i+1,by simp,by omega,(by have e:=HST.out;simp only [Bool.not_false,Bool.and_self,↓reduceIte] at e;rw [e,List.length_append,List.length_singleton,Y2];exact hown),hb5⟩,by simp [intOf];omega⟩
       all_goals
        go_wp2_with (first|(go_at_call 62;refine (H2.out _).mono ?_;rintro e w9 ⟨rfl,hw9⟩;rw [hw9];clear hw9 w9 H2)|(go_at_call 62;refine (H8.out _).mono ?_;rintro e w9 ⟨rfl,hw9⟩;rw [hw9];clear hw9 w9 H8))
        exact ⟨⟨i+1,by simp,by omega,(by have e:_=LS:=HST.out.trans (by simp);rw [e];exact (by repeat (first|exact hO.out|refine World.ownsRow.alloc ?_ _|refine World.ownsRow.drew ?_))),(by repeat (first|refine Below.alloc ?_ (by have:=hB.out.size;simp;try omega) _|refine Below.drew ?_|exact hB.out))⟩,by simp [intOf];omega⟩
      ·have e:i=NK:=by omega
       subst e
       rw [show (MS kk).take i=MS kk from List.take_of_length_le (by rw [HNK.out];exact Nat.le_refl _),List.append_assoc,← HSQ.out] at hO
       go_wp2
       go_region
       go_wp2
       exact ⟨⟨q+1,by simp,by omega,(by repeat (first|exact hO.out|refine World.ownsRow.alloc ?_ _|refine World.ownsRow.drew ?_)),(by repeat (first|refine Below.alloc ?_ (by have:=hB.out.size;simp;try omega) _|refine Below.drew ?_|exact hB.out))⟩,by simp [intOf];omega⟩
    ·have e:q=K:=by omega
     subst e
     rw [List.take_of_length_le (by rw [HCL.out];exact Nat.le_refl _)] at hO
     obtain ⟨la,lc,e9⟩:=ownv hO.out
     go_wp2
     exact bodyPost_ret (results_tmp2 rfl _ _ _) rfl ⟨⟨_,rfl,Go.Joins.ownsRow_le hO.out BV.out.size⟩,Za BV.out hB.out⟩
def ifcC (cs:List Cls) (i:Int):Bool:=match clsI cs i with
 | some c=>hasI c.fl 512
 | none=>false
theorem Y4 {b:Nat} {cs:List Cls} {W:World} (h:RAt b cs W) (i:Int):Calls Tryz.prog 61 #[.pointer (some ⟨b,0,none⟩),.int .i64 i] W fun e w'=>e=.returned (.bool (ifcC cs i))∧w'=W:=by
 have HI:Hid (∀ y,(clsI cs i).isSome=y→Calls Tryz.prog 68 #[.pointer (some ⟨b,0,none⟩),.int .i64 i] W fun e w'=>e=.returned (.bool y)∧w'=W):=fun y hy=>by rw [← hy];exact rIn_c h i
 rcases X6 cs i with ⟨h1,h2⟩|⟨k,c,rfl,h2,h1⟩
 ·have e:ifcC cs i=false:=by rw [ifcC,h1]
  rw [e]
  have HI:Hid (Calls Tryz.prog 68 #[.pointer (some ⟨b,0,none⟩),.int .i64 i] W fun e w'=>e=.returned (.bool false)∧w'=W):=HI.out false (by rw [h1];rfl)
  clear h h1 h2 e
  go_enter Tryz.func61,Tryz.ntmps61
  go_wp2_with (go_at_call 68;refine HI.out.mono ?_;rintro e w9 ⟨rfl,hw9⟩;rw [hw9];clear hw9 w9)
  exact bodyPost_ret (results_tmp rfl _ _ _) rfl ⟨rfl,rfl⟩
 ·have e:ifcC cs k=hasI c.fl 512:=by rw [ifcC,h1]
  rw [e]
  have HI:Hid (Calls Tryz.prog 68 #[.pointer (some ⟨b,0,none⟩),.int .i64 (k:Int)] W fun e w'=>e=.returned (.bool true)∧w'=W):=HI.out true (by rw [h1];rfl)
  obtain ⟨g,cap,vi,vm,b0,_,_,c0,c1,c2,c3,c4,c5,_⟩:=h.cells h2
  have hkI:(k:Int)<(cs.length:Int):=by have:=(List.getElem?_eq_some_iff.1 h2).1;omega
  have HF:Hid (∀ w:World,Calls Tryz.prog 62 #[.int .i64 c.fl,.int .i64 512] w fun e w'=>e=.returned (.bool (hasI c.fl 512))∧w'=w):=Zv c.fl 512
  generalize hasI c.fl 512=R at *
  clear h h1 h2 e
  go_enter Tryz.func61,Tryz.ntmps61
  go_wp2_with (first
   | (go_at_call 68;refine HI.out.mono ?_;rintro e w9 ⟨rfl,hw9⟩;rw [hw9];clear hw9 w9)
   | (go_at_call 62;refine (HF.out _).mono ?_;rintro e w9 ⟨rfl,hw9⟩;rw [hw9];clear hw9 w9))
  exact bodyPost_ret (results_tmp rfl _ _ _) rfl ⟨rfl,rfl⟩
def togB (p q:Cls):Bool:=(p.ld == q.ld)&&(pkgL p.nm.data.toList == pkgL q.nm.data.toList)
theorem rTog_c (p q:Cls) (vi vm vi' vm':Value) (hp:p.nm.size≤maxLen) (hq:q.nm.size≤maxLen) (W:World):Calls Tryz.prog 168 #[.agg #[.string p.nm,.string p.su,vi,.int .i64 p.fl,.int .i64 p.ld,vm],.agg #[.string q.nm,.string q.su,vi',.int .i64 q.fl,.int .i64 q.ld,vm']] W fun e w'=>e=.returned (.bool (togB p q))∧Bw W w':=by
 have HP:Hid (∀ u w,u=p.nm→Calls Tryz.prog 229 #[.string u] w fun e w'=>e=.returned (.string (pkB p.nm))∧w'=w):=fun u w hu=>by rw [hu];exact Zay p.nm hp w
 have HQ:Hid (∀ u w,u=q.nm→Calls Tryz.prog 229 #[.string u] w fun e w'=>e=.returned (.string (pkB q.nm))∧w'=w):=fun u w hu=>by rw [hu];exact Zay q.nm hq w
 have HR:Hid (togB p q=((p.ld == q.ld)&&((pkB p.nm).toList == (pkB q.nm).toList))):=by
  rw [Hid,togB,Lib.toList_data,Lib.toList_data];rfl
 generalize togB p q=R at *
 generalize pkB p.nm=s1 at *
 generalize pkB q.nm=s2 at *
 clear hp hq
 by_cases hld:p.ld=q.ld
 ·have hld2:(p.ld == q.ld)=true:=by rw [hld];simp
  cases hz:(s1.toList == s2.toList)
  all_goals
   rw [hld2,hz] at HR
   go_enter Tryz.func168,Tryz.ntmps168
   go_wp2
   go_quiet (first|(go_at_call 229;refine Calls.quiet_of_same (HP.out _ _ rfl))|(go_at_call 229;refine Calls.quiet_of_same (HQ.out _ _ rfl)))
   go_wp2
   exact bodyPost_ret (results_tmp rfl _ _ _) rfl ⟨by rw [HR.out];rfl,below_drewN sqR _⟩
 ·have hld2:(p.ld == q.ld)=false:=by simpa using hld
  rw [hld2] at HR
  go_enter Tryz.func168,Tryz.ntmps168
  go_wp2
  go_quiet (first|(go_at_call 229;refine Calls.quiet_of_same (HP.out _ _ rfl)))
  go_wp2
  exact bodyPost_ret (results_tmp rfl _ _ _) rfl ⟨by rw [HR.out];rfl,below_drewN sqR _⟩
def spC (cs:List Cls) (a b:Int):Bool:=match clsI cs a,clsI cs b with
 | some p,some q=>togB p q
 | _,_=>false
theorem Qv {w:World} {v:Value} {l:List (List UInt8)} (h:IsStrs w v l):∃ a c,v=.slice a l.length c:=by
 obtain ⟨a,c,e,_⟩:=h
 exact ⟨a,c,e⟩
theorem Xz {w:World} {v:Value} {l:List Mth} (h:IsMths w v l):∃ a c,v=.slice a l.length c:=by
 obtain ⟨a,c,e,_⟩:=h
 exact ⟨a,c,e⟩
theorem rSame_c {b:Nat} {cs:List Cls} {W:World} (h:RAt b cs W) (hz:∀ c∈cs,c.nm.size≤maxLen) (x y:Int):Calls Tryz.prog 214 #[.pointer (some ⟨b,0,none⟩),.int .i64 x,.int .i64 y] W fun e w'=>e=.returned (.bool (spC cs x y))∧Bw W w':=by
 obtain ⟨σ,V,hne,V1,V2⟩:=class_of' (fun w'=>Bw W w') ⟨_,Below.refl _ _⟩
 have HI:Hid (∀ i z y s,i=z→(clsI cs z).isSome=y→Calls Tryz.prog 68 #[.pointer (some ⟨b,0,none⟩),.int .i64 i] (V s) fun e w''=>e=.returned (.bool y)∧∃ s',w''=V s'):=fun i z y s hi hy=>by
  rw [hi,← hy];exact (rIn_c (h.below (V1.out s)) z).mono fun e w'' zz=>⟨zz.1,s,zz.2⟩
 rcases X6 cs x with ⟨h1,_⟩|⟨k,p,rfl,h2,h1⟩
 ·have e:spC cs x y=false:=by rw [spC,h1]
  rw [e]
  have HX:Hid (∀ i s,i=x→Calls Tryz.prog 68 #[.pointer (some ⟨b,0,none⟩),.int .i64 i] (V s) fun e w''=>e=.returned (.bool false)∧∃ s',w''=V s'):=fun i s hi=>HI.out i x _ s hi (by rw [h1];rfl)
  clear h h1 e HI
  go_enter Tryz.func214,Tryz.ntmps214
  go_wp2
  refine Ze (C:=fun w'=>∃ s,w'=V s) (by kernel_rfl) (by kernel_rfl) (V2.out _ ((Below.refl _ _).drew)) ?_
  repeat (go_big_quiet_step ((go_at_call 68;exact HX.out _ _ rfl)))
  refine wpQuiet_nil ?_
  intro w9 hw9
  obtain ⟨s9,rfl⟩:=hw9
  go_wp2
  exact bodyPost_ret (results_tmp rfl _ _ _) rfl ⟨rfl,V1.out s9⟩
 ·have HX:Hid (∀ i s,i=(k:Int)→Calls Tryz.prog 68 #[.pointer (some ⟨b,0,none⟩),.int .i64 i] (V s) fun e w''=>e=.returned (.bool true)∧∃ s',w''=V s'):=fun i s hi=>HI.out i k _ s hi (by rw [h1];rfl)
  rcases X6 cs y with ⟨g1,_⟩|⟨j,q,rfl,g2,g1⟩
  ·have e:spC cs k y=false:=by rw [spC,h1,g1]
   rw [e]
   have HY:Hid (∀ i s,i=y→Calls Tryz.prog 68 #[.pointer (some ⟨b,0,none⟩),.int .i64 i] (V s) fun e w''=>e=.returned (.bool false)∧∃ s',w''=V s'):=fun i s hi=>HI.out i y _ s hi (by rw [g1];rfl)
   clear h h1 g1 e HI h2
   go_enter Tryz.func214,Tryz.ntmps214
   go_wp2
   refine Ze (C:=fun w'=>∃ s,w'=V s) (by kernel_rfl) (by kernel_rfl) (V2.out _ ((Below.refl _ _).drew)) ?_
   repeat (go_big_quiet_step (first|(go_at_call 68;exact HX.out _ _ rfl)|(go_at_call 68;exact HY.out _ _ rfl)))
   refine wpQuiet_nil ?_
   intro w9 hw9
   obtain ⟨s9,rfl⟩:=hw9
   go_wp2
   exact bodyPost_ret (results_tmp rfl _ _ _) rfl ⟨rfl,V1.out s9⟩
  ·have e:spC cs k j=togB p q:=by rw [spC,h1,g1]
   rw [e]
   have HY:Hid (∀ i s,i=(j:Int)→Calls Tryz.prog 68 #[.pointer (some ⟨b,0,none⟩),.int .i64 i] (V s) fun e w''=>e=.returned (.bool true)∧∃ s',w''=V s'):=fun i s hi=>HI.out i j _ s hi (by rw [g1];rfl)
   have HT:Hid (∀ vi vm vi' vm' s,Calls Tryz.prog 168 #[.agg #[.string p.nm,.string p.su,vi,.int .i64 p.fl,.int .i64 p.ld,vm],.agg #[.string q.nm,.string q.su,vi',.int .i64 q.fl,.int .i64 q.ld,vm']] (V s) fun e w''=>e=.returned (.bool (togB p q))∧∃ s',w''=V s'):=fun vi vm vi' vm' s=>(rTog_c p q vi vm vi' vm' (hz p (List.mem_of_getElem? h2)) (hz q (List.mem_of_getElem? g2)) (V s)).mono fun e w'' zz=>⟨zz.1,V2.out _ (Za (V1.out s) zz.2)⟩
   obtain ⟨g,cap,vi,vm,b0,hlt,hgl,c0,c1,c2,c3,c4,c5,hi1,hi2⟩:=h.cells h2
   obtain ⟨g',cap',vi',vm',b0',_,_,d0,d1,d2,d3,d4,d5,hi3,hi4⟩:=h.cells g2
   rw [b0] at b0'
   simp only [Option.some.injEq,Value.slice.injEq,Addr.mk.injEq,and_true,true_and] at b0'
   obtain ⟨rfl,rfl⟩:=b0'
   obtain ⟨x1,x2,rfl⟩:=Qv hi1
   obtain ⟨x3,x4,rfl⟩:=Xz hi2
   obtain ⟨x5,x6,rfl⟩:=Qv hi3
   obtain ⟨x7,x8,rfl⟩:=Xz hi4
   have kp:∀ (s:σ) (bb j:Nat) (v:Value),bb<W.heap.size→W.cell? ⟨bb,j,none⟩=some v→(V s).cell? ⟨bb,j,none⟩=some v:=fun s bb j v hl h=>((V1.out s).cell (p:=⟨bb,j,none⟩) hl).trans h
   replace b0:=fun s=>kp s _ _ _ hlt b0
   replace c0:=fun s=>kp s _ _ _ hgl c0
   replace c1:=fun s=>kp s _ _ _ hgl c1
   replace c2:=fun s=>kp s _ _ _ hgl c2
   replace c3:=fun s=>kp s _ _ _ hgl c3
   replace c4:=fun s=>kp s _ _ _ hgl c4
   replace c5:=fun s=>kp s _ _ _ hgl c5
   replace d0:=fun s=>kp s _ _ _ hgl d0
   replace d1:=fun s=>kp s _ _ _ hgl d1
   replace d2:=fun s=>kp s _ _ _ hgl d2
   replace d3:=fun s=>kp s _ _ _ hgl d3
   replace d4:=fun s=>kp s _ _ _ hgl d4
   replace d5:=fun s=>kp s _ _ _ hgl d5
   have hxI:(k:Int)<(cs.length:Int):=by have:=(List.getElem?_eq_some_iff.1 h2).1;omega
   have hyI:(j:Int)<(cs.length:Int):=by have:=(List.getElem?_eq_some_iff.1 g2).1;omega
   generalize togB p q=R at *
   clear h h1 h2 g1 g2 e kp hlt hgl HI hi1 hi2 hi3 hi4 hz
   go_enter Tryz.func214,Tryz.ntmps214
   go_wp2
   refine Ze (C:=fun w'=>∃ s,w'=V s) (by kernel_rfl) (by kernel_rfl) (V2.out _ ((Below.refl _ _).drew)) ?_
   repeat (go_big_quiet_step (first|(go_at_call 68;exact HX.out _ _ rfl)|(go_at_call 68;exact HY.out _ _ rfl)|(go_at_call 168;exact HT.out _ _ _ _ _)))
   refine wpQuiet_nil ?_
   intro w9 hw9
   obtain ⟨s9,rfl⟩:=hw9
   go_wp2
   exact bodyPost_ret (results_tmp rfl _ _ _) rfl ⟨rfl,V1.out s9⟩
theorem rOpen_c (c p:Cls) (vi vm vi' vm':Value) (hc:c.nm.size≤maxLen) (hp:p.nm.size≤maxLen) (W:World):Calls Tryz.prog 105 #[.agg #[.string c.nm,.string c.su,vi,.int .i64 c.fl,.int .i64 c.ld,vm],.agg #[.string p.nm,.string p.su,vi',.int .i64 p.fl,.int .i64 p.ld,vm']] W fun e w'=>e=.returned (.bool (hasI p.fl 1||togB c p))∧Bw W w':=by
 have HT:Hid (∀ w,Calls Tryz.prog 168 #[.agg #[.string c.nm,.string c.su,vi,.int .i64 c.fl,.int .i64 c.ld,vm],.agg #[.string p.nm,.string p.su,vi',.int .i64 p.fl,.int .i64 p.ld,vm']] w fun e w'=>e=.returned (.bool (togB c p))∧Bw w w'):=fun w=>rTog_c c p vi vm vi' vm' hc hp w
 have HF:Hid (∀ w:World,Calls Tryz.prog 62 #[.int .i64 p.fl,.int .i64 1] w fun e w'=>e=.returned (.bool (hasI p.fl 1))∧w'=w):=Zv p.fl 1
 generalize hasI p.fl 1=b1 at *
 generalize togB c p=b2 at *
 clear hc hp
 cases b1
 all_goals
  go_enter Tryz.func105,Tryz.ntmps105
  go_wp2_with (first
   | (go_at_call 62;refine (HF.out _).mono ?_;rintro e w9 ⟨rfl,hw9⟩;rw [hw9];clear hw9 w9)
   | (go_at_call 168;refine (HT.out _).mono ?_;rintro e w1 ⟨rfl,hb⟩;have B1:Hid (Bw W w1):=Za sqR hb;clear hb HT))
  first
   | exact bodyPost_ret (results_tmp rfl _ _ _) rfl ⟨rfl,B1.out⟩
   | exact bodyPost_ret (results_tmp rfl _ _ _) rfl ⟨rfl,sqR⟩
end Go.Proofs.YtmafkabjjibcbaaGreat
