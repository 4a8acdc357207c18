import Derived.Test.YtmafkabjjibcbaaGreatSeB
set_option maxHeartbeats 8000000
set_option maxRecDepth 100000
namespace Go.Proofs.YtmafkabjjibcbaaGreat
open Go.RowKit Go.Maps
theorem Zli (N:Nat) (R:List (Int×Int)) (K:Nat) (HK:Hid (R.length=K)) (v:Value) (m1 m2:Int) (W:World) (h:W.ownsRow N 38 2 v K (Zf R)) (hn:K≤1000000000):Calls Tryz.prog 117 #[v,.agg #[.int .i64 m1,.int .i64 m2]] W fun e w'=>(∃ j:Int,e=.returned (.int .i64 j)∧(0≤j↔(m1,m2)∈R))∧Bw W w':=by
 obtain ⟨ao,cap,rfl⟩:=ownv h
 have HA:Hid (W.ownsRow N 38 2 (.slice ao K cap) K (Zf R)):=h
 have hB0:Bw W (W.alloc (.cells #[.int .i64 m1,.int .i64 m2] 38)):=(Below.refl _ W).alloc (Nat.le_refl _) _
 have hA0:(W.alloc (.cells #[.int .i64 m1,.int .i64 m2] 38)).heap[W.heap.size]?=some (.cells #[.int .i64 m1,.int .i64 m2] 38 (0,0)):=Zo _ _
 clear h
 go_enter Tryz.func117,Tryz.ntmps117
 go_wp2
 generalize W.alloc (.cells #[.int .i64 m1,.int .i64 m2] 38)=U at *
 obtain ⟨u0,u1,uf,uL⟩:=rw2 hA0
 have HBU:Hid (Bw W U):=hB0
 clear hB0 hA0
 go_loopw [8] (fun iv wr=>∃ i:Nat,iv=.int .i64 i∧i≤K∧Hid (Bw U wr)∧Hid ((m1,m2) ∉ R.take i)) (fun iv _=>K - (intOf iv).toNat)
 case atStart=>exact ⟨0,rfl,Nat.zero_le _,Below.refl _ _,by simp [Hid]⟩
 case round =>
  obtain ⟨i,rfl,hi,hb,hs⟩:=hrel
  by_cases hlt:i<K
  ·have hiI:(i:Int)<(K:Int):=by omega
   obtain ⟨x,hx⟩:∃ x,R[i]?=some x:=⟨_,List.getElem?_eq_getElem (by rw [HK.out];exact hlt)⟩
   obtain ⟨g,c2,hform,_,hgl,hcs⟩:=Zb1 HA.out (by omega)
   injection hform with hca _ hcc
   subst hca hcc
   obtain ⟨f0,f1⟩:=Zeh R i x hx
   have t0:=(hb.out.cell (p:=⟨g,i * 2,none⟩) (Nat.lt_trans hgl uL)).trans ((HBU.out.cell (p:=⟨g,i * 2,none⟩) hgl).trans (hcs _ _ f0))
   have t1:=(hb.out.cell (p:=⟨g,i * 2+1,none⟩) (Nat.lt_trans hgl uL)).trans ((HBU.out.cell (p:=⟨g,i * 2+1,none⟩) hgl).trans (hcs _ _ f1))
   have z0:=(hb.out.cell (p:=⟨W.heap.size,0,none⟩) uL).trans u0
   have z1:=(hb.out.cell (p:=⟨W.heap.size,1,none⟩) uL).trans u1
   obtain ⟨x1,x2⟩:=x
   simp only at t0 t1
   have HX:Hid (R[i]?=some (x1,x2)):=hx
   clear hcs f0 f1 hx
   by_cases he:(m1,m2)=(x1,x2)
   ·have HM:Hid ((m1,m2)∈R):=by rw [Hid,he];exact List.mem_of_getElem? HX.out
    injection he with e1 e2
    subst e1 e2
    go_wp2
    go_region
    go_wp2
    go_ret
    exact ⟨⟨_,rfl,⟨fun _=>HM.out,fun _=>by omega⟩⟩,HBU.out.trans ((hb.out.drew).mono HBU.out.size)⟩
   ·have hne:¬ m1=x1∨(m1=x1∧¬ m2=x2):=by
     by_cases e:m1=x1
     ·exact .inr ⟨e,fun e2=>he (Prod.ext e e2)⟩
     ·exact .inl e
    have HN:Hid ((m1,m2) ∉ R.take (i+1)):=by
     rw [Hid,List.take_add_one,HX.out,Option.toList_some,List.mem_append,List.mem_singleton]
     rintro (h|h)
     ·exact hs.out h
     ·exact he h
    clear he
    rcases hne with hne|⟨rfl,hne⟩
    ·go_wp2
     go_region
     go_wp2
     go_roundw
     case rel=>exact ⟨i+1,by go_num,by omega,hb.out.drew,HN⟩
     case measure=>simp [intOf];omega
    ·go_wp2
     go_region
     go_wp2
     go_roundw
     case rel=>exact ⟨i+1,by go_num,by omega,hb.out.drew,HN⟩
     case measure=>simp [intOf];omega
  ·have e:i=K:=by omega
   subst e
   have HN:Hid ((m1,m2) ∉ R):=by
    have:=hs.out
    rwa [← HK.out,List.take_length] at this
   go_wp2
   go_ret
   exact ⟨⟨_,rfl,⟨fun h=>absurd h (by decide),fun h=>absurd h HN.out⟩⟩,HBU.out.trans (hb.out.mono HBU.out.size)⟩
theorem contMI_c (N:Nat) (R:List (Int×Int)) (K:Nat) (HK:Hid (R.length=K)) (v:Value) (m1 m2:Int) (W:World) (h:W.ownsRow N 38 2 v K (Zf R)) (hn:K≤1000000000):Calls Tryz.prog 59 #[v,.agg #[.int .i64 m1,.int .i64 m2]] W fun e w'=>e=.returned (.bool (decide ((m1,m2)∈R)))∧Bw W w':=by
 have HI:Hid (∀ w,Bw W w→Calls Tryz.prog 117 #[v,.agg #[.int .i64 m1,.int .i64 m2]] w fun e w'=>(∃ j:Int,e=.returned (.int .i64 j)∧(0≤j↔(m1,m2)∈R))∧Bw w w'):=fun w hb=>Zli N R K HK v m1 m2 w (Zd h hb) hn
 clear h
 go_enter Tryz.func59,Tryz.ntmps59
 go_wp2_with (go_at_call 117;refine (HI.out _ sqR).mono ?_;rintro e w1 ⟨⟨j,rfl,hj⟩,hb⟩;have HJ:Hid (0≤j↔(m1,m2)∈R):=hj;have B1:Hid (Bw W w1):=Zb sqR hb;clear hb hj HI)
 all_goals go_ret
 all_goals refine ⟨retB ?_,B1.out⟩
 all_goals rw [decide_eq_decide.2 HJ.out]
def zeE:Ent:=⟨(0,0),(0,0),0,(0,0),0⟩
def lokR (ps:List Plc) (r:Int) (m:Int×Int):Ent×Int:=match Zm ps m.1 m.2 with
 | none=>(zeE,3)
 | some _=>if itE ps r=0 then (if m∈rtsR ps r then (entP ps r m,0) else (zeE,6)) else (zeE,itE ps r)
theorem chkI_c {b:Nat} {ps:List Plc} {W:World} (h:WAt b ps W) (hW:WI ps) (m1 m2:Int):Calls Tryz.prog 58 #[.pointer (some ⟨b,0,none⟩),.agg #[.int .i64 m1,.int .i64 m2]] W fun e w'=>e=.returned (.int .i64 (if (Zm ps m1 m2).isSome then 0 else 3))∧Bw W w':=by
 have HM:Hid (∀ w,Bw W w→Calls Tryz.prog 46 #[.pointer (some ⟨b,0,none⟩),.agg #[.int .i64 m1,.int .i64 m2]] w fun e w'=>(∃ y:Value,e=.returned (.tuple #[y,.int .i64 (if (Zm ps m1 m2).isSome then 0 else 3)])∧∃ z0 z1 z2 z3 z4 a n s,y=.agg #[.string z0,.string z1,.int .i64 z2,.int .i64 z3,.int .i64 z4,.slice a n s])∧Bw w w'):=fun w hb=>by
  have:=mth_e (h.below hb) hW.pb m1 m2
  cases hm:Zm ps m1 m2 with
  | none =>
    rw [hm] at this
    exact this.mono fun e w' zz=>⟨⟨_,zz.1,_,_,_,_,_,_,_,_,rfl⟩,zz.2⟩
  | some x =>
    rw [hm] at this
    exact this.mono fun e w' zz=>by
     obtain ⟨⟨sa,sk,so,e1⟩,e2⟩:=zz
     exact ⟨⟨_,e1,_,_,_,_,_,_,_,_,rfl⟩,e2⟩
 generalize (if (Zm ps m1 m2).isSome then (0:Int) else 3)=E at *
 clear h hW
 go_enter Tryz.func58,Tryz.ntmps58
 go_wp2_with (go_at_call 46;refine (HM.out _ sqR).mono ?_;rintro e w1 ⟨⟨y,rfl,z0,z1,z2,z3,z4,a,n,s,rfl⟩,hb⟩;have B1:Hid (Bw W w1):=Zb sqR hb;clear hb HM)
 exact bodyPost_ret (results_tmp rfl _ _ _) rfl ⟨rfl,(sqE B1)⟩
theorem lok_1 (W:World) (b:Nat) (r m1 m2:Int) (ce:Int) (hce:(ce == 0)=false) (HC:Hid (∀ w,Bw W w→Calls Tryz.prog 58 #[.pointer (some ⟨b,0,none⟩),.agg #[.int .i64 m1,.int .i64 m2]] w fun e w'=>(e=.returned (.int .i64 ce))∧Bw w w')):Calls Tryz.prog 16 #[.pointer (some ⟨b,0,none⟩),.int .i64 r,.agg #[.int .i64 m1,.int .i64 m2]] W fun e w'=>e=.returned (.tuple #[.agg #[.int .i64 0,.int .i64 0,.int .i64 0,.int .i64 0,.int .i64 0,.int .i64 0,.int .i64 0,.int .i64 0],.int .i64 ce])∧Bw W w':=by
 have BB:Hid (Bw W W):=Below.refl _ _
 go_enter Tryz.func16,Tryz.ntmps16
 go_wp2_with (first
  | (go_at_call 58;refine (HC.out _ (sqE BB)).mono ?_;rintro e w1 ⟨rfl,hb⟩;have mmd:=kp2 (n:=W.heap.size) hb;(try clear mmB mm0 mm1 mmf mmL mmN);obtain ⟨mmB,mm0,mm1,mmf,mmL,mmN⟩:=mmd;have rrd:=kp8 (n:=W.heap.size+1) hb (by first|omega|(simp;try omega)) (Za _ _ (by simp));(try clear rrB rr0 rr1 rr2 rr3 rr4 rr5 rr6 rr7 rrf rrL rrN);obtain ⟨rrB,rr0,rr1,rr2,rr3,rr4,rr5,rr6,rr7,rrf,rrL,rrN⟩:=rrd;have BB2:Bw W w1:=Zb (sqE BB) hb;clear BB;have BB:Hid (Bw W w1):=BB2;clear BB2;clear hb))
 exact bodyPost_ret (v:=.tuple #[.agg #[.int .i64 0,.int .i64 0,.int .i64 0,.int .i64 0,.int .i64 0,.int .i64 0,.int .i64 0,.int .i64 0],.int .i64 ce]) (by simp [results,Tryz.results16,go_sem, *]) rfl ⟨rfl,(sqE BB)⟩
theorem lok_2 (W:World) (b:Nat) (r m1 m2:Int) (E:Int) (hE:(E == 0)=false) (HC:Hid (∀ w,Bw W w→Calls Tryz.prog 58 #[.pointer (some ⟨b,0,none⟩),.agg #[.int .i64 m1,.int .i64 m2]] w fun e w'=>(e=.returned (.int .i64 0))∧Bw w w')) (HR:Hid (∀ w,Bw W w→Calls Tryz.prog 12 #[.pointer (some ⟨b,0,none⟩),.int .i64 r] w fun e w'=>(e=.returned (.tuple #[.slice none 0 0,.int .i64 E]))∧Bw w w')):Calls Tryz.prog 16 #[.pointer (some ⟨b,0,none⟩),.int .i64 r,.agg #[.int .i64 m1,.int .i64 m2]] W fun e w'=>e=.returned (.tuple #[.agg #[.int .i64 0,.int .i64 0,.int .i64 0,.int .i64 0,.int .i64 0,.int .i64 0,.int .i64 0,.int .i64 0],.int .i64 E])∧Bw W w':=by
 have BB:Hid (Bw W W):=Below.refl _ _
 go_enter Tryz.func16,Tryz.ntmps16
 go_wp2_with (first
  | (go_at_call 58;refine (HC.out _ (sqE BB)).mono ?_;rintro e w1 ⟨rfl,hb⟩;have mmd:=kp2 (n:=W.heap.size) hb;(try clear mmB mm0 mm1 mmf mmL mmN);obtain ⟨mmB,mm0,mm1,mmf,mmL,mmN⟩:=mmd;have rrd:=kp8 (n:=W.heap.size+1) hb (by first|omega|(simp;try omega)) (Za _ _ (by simp));(try clear rrB rr0 rr1 rr2 rr3 rr4 rr5 rr6 rr7 rrf rrL rrN);obtain ⟨rrB,rr0,rr1,rr2,rr3,rr4,rr5,rr6,rr7,rrf,rrL,rrN⟩:=rrd;have BB2:Bw W w1:=Zb (sqE BB) hb;clear BB;have BB:Hid (Bw W w1):=BB2;clear BB2;clear hb)
  | (go_at_call 12;refine (HR.out _ (sqE BB)).mono ?_;rintro e w2 ⟨rfl,hb⟩;have mmd:=kp2 (n:=W.heap.size) hb;(try clear mmB mm0 mm1 mmf mmL mmN);obtain ⟨mmB,mm0,mm1,mmf,mmL,mmN⟩:=mmd;have rrd:=kp8 (n:=W.heap.size+1) hb (by first|omega|(simp;try omega)) (rrB.out);(try clear rrB rr0 rr1 rr2 rr3 rr4 rr5 rr6 rr7 rrf rrL rrN);obtain ⟨rrB,rr0,rr1,rr2,rr3,rr4,rr5,rr6,rr7,rrf,rrL,rrN⟩:=rrd;have BB2:Bw W w2:=Zb (sqE BB) hb;clear BB;have BB:Hid (Bw W w2):=BB2;clear BB2;clear hb))
 exact bodyPost_ret (v:=.tuple #[.agg #[.int .i64 0,.int .i64 0,.int .i64 0,.int .i64 0,.int .i64 0,.int .i64 0,.int .i64 0,.int .i64 0],.int .i64 E]) (by simp [results,Tryz.results16,go_sem, *]) rfl ⟨rfl,(sqE BB)⟩
theorem lok_3 (W:World) (b:Nat) (r m1 m2:Int) (HC:Hid (∀ w,Bw W w→Calls Tryz.prog 58 #[.pointer (some ⟨b,0,none⟩),.agg #[.int .i64 m1,.int .i64 m2]] w fun e w'=>(e=.returned (.int .i64 0))∧Bw w w')) (R:List (Int×Int)) (n:Nat) (HR:Hid (∀ w,Bw W w→Calls Tryz.prog 12 #[.pointer (some ⟨b,0,none⟩),.int .i64 r] w fun e w'=>(∃ v,e=.returned (.tuple #[v,.int .i64 0])∧w'.ownsRow w.heap.size 38 2 v n (Zf R))∧Bw w w')) (HT:Hid (∀ N v w,w.ownsRow N 38 2 v n (Zf R)→Calls Tryz.prog 59 #[v,.agg #[.int .i64 m1,.int .i64 m2]] w fun e w'=>e=.returned (.bool false)∧Bw w w')):Calls Tryz.prog 16 #[.pointer (some ⟨b,0,none⟩),.int .i64 r,.agg #[.int .i64 m1,.int .i64 m2]] W fun e w'=>e=.returned (.tuple #[.agg #[.int .i64 0,.int .i64 0,.int .i64 0,.int .i64 0,.int .i64 0,.int .i64 0,.int .i64 0,.int .i64 0],.int .i64 6])∧Bw W w':=by
 have BB:Hid (Bw W W):=Below.refl _ _
 go_enter Tryz.func16,Tryz.ntmps16
 go_wp2_with (first
  | (go_at_call 58;refine (HC.out _ (sqE BB)).mono ?_;rintro e w1 ⟨rfl,hb⟩;have mmd:=kp2 (n:=W.heap.size) hb;(try clear mmB mm0 mm1 mmf mmL mmN);obtain ⟨mmB,mm0,mm1,mmf,mmL,mmN⟩:=mmd;have rrd:=kp8 (n:=W.heap.size+1) hb (by first|omega|(simp;try omega)) (Za _ _ (by simp));(try clear rrB rr0 rr1 rr2 rr3 rr4 rr5 rr6 rr7 rrf rrL rrN);obtain ⟨rrB,rr0,rr1,rr2,rr3,rr4,rr5,rr6,rr7,rrf,rrL,rrN⟩:=rrd;have BB2:Bw W w1:=Zb (sqE BB) hb;clear BB;have BB:Hid (Bw W w1):=BB2;clear BB2;clear hb)
  | (go_at_call 12;refine (HR.out _ (sqE BB)).mono ?_;rintro e w2 ⟨⟨vr,rfl,ho⟩,hb⟩;have O2:Hid (w2.ownsRow w1.heap.size 38 2 vr n (Zf R)):=ho;clear ho;have mmd:=kp2 (n:=W.heap.size) hb;(try clear mmB mm0 mm1 mmf mmL mmN);obtain ⟨mmB,mm0,mm1,mmf,mmL,mmN⟩:=mmd;have rrd:=kp8 (n:=W.heap.size+1) hb (by first|omega|(simp;try omega)) (rrB.out);(try clear rrB rr0 rr1 rr2 rr3 rr4 rr5 rr6 rr7 rrf rrL rrN);obtain ⟨rrB,rr0,rr1,rr2,rr3,rr4,rr5,rr6,rr7,rrf,rrL,rrN⟩:=rrd;have BB2:Bw W w2:=Zb (sqE BB) hb;clear BB;have BB:Hid (Bw W w2):=BB2;clear BB2;clear hb)
  | (go_at_call 59;refine (HT.out _ _ _ O2.out).mono ?_;rintro e w3 ⟨rfl,hb⟩;have mmd:=kp2 (n:=W.heap.size) hb;(try clear mmB mm0 mm1 mmf mmL mmN);obtain ⟨mmB,mm0,mm1,mmf,mmL,mmN⟩:=mmd;have rrd:=kp8 (n:=W.heap.size+1) hb (by first|omega|(simp;try omega)) (rrB.out);(try clear rrB rr0 rr1 rr2 rr3 rr4 rr5 rr6 rr7 rrf rrL rrN);obtain ⟨rrB,rr0,rr1,rr2,rr3,rr4,rr5,rr6,rr7,rrf,rrL,rrN⟩:=rrd;have BB2:Bw W w3:=Zb (sqE BB) hb;clear BB;have BB:Hid (Bw W w3):=BB2;clear BB2;clear hb))
 exact bodyPost_ret (v:=.tuple #[.agg #[.int .i64 0,.int .i64 0,.int .i64 0,.int .i64 0,.int .i64 0,.int .i64 0,.int .i64 0,.int .i64 0],.int .i64 6]) (by simp [results,Tryz.results16,go_sem, *]) rfl ⟨rfl,(sqE BB)⟩
theorem lok_4 (W:World) (b:Nat) (r m1 m2:Int) (r1 r2 k1 k2 ee v1 v2 ff:Int) (HC:Hid (∀ w,Bw W w→Calls Tryz.prog 58 #[.pointer (some ⟨b,0,none⟩),.agg #[.int .i64 m1,.int .i64 m2]] w fun e w'=>(e=.returned (.int .i64 0))∧Bw w w')) (R:List (Int×Int)) (n:Nat) (HR:Hid (∀ w,Bw W w→Calls Tryz.prog 12 #[.pointer (some ⟨b,0,none⟩),.int .i64 r] w fun e w'=>(∃ v,e=.returned (.tuple #[v,.int .i64 0])∧w'.ownsRow w.heap.size 38 2 v n (Zf R))∧Bw w w')) (HT:Hid (∀ N v w,w.ownsRow N 38 2 v n (Zf R)→Calls Tryz.prog 59 #[v,.agg #[.int .i64 m1,.int .i64 m2]] w fun e w'=>e=.returned (.bool true)∧Bw w w')) (HE:Hid (∀ w,Bw W w→Calls Tryz.prog 53 #[.pointer (some ⟨b,0,none⟩),.int .i64 r,.agg #[.int .i64 m1,.int .i64 m2]] w fun e w'=>(e=.returned (.agg #[.int .i64 r1,.int .i64 r2,.int .i64 k1,.int .i64 k2,.int .i64 ee,.int .i64 v1,.int .i64 v2,.int .i64 ff]))∧Bw w w')):Calls Tryz.prog 16 #[.pointer (some ⟨b,0,none⟩),.int .i64 r,.agg #[.int .i64 m1,.int .i64 m2]] W fun e w'=>e=.returned (.tuple #[.agg #[.int .i64 r1,.int .i64 r2,.int .i64 k1,.int .i64 k2,.int .i64 ee,.int .i64 v1,.int .i64 v2,.int .i64 ff],.int .i64 0])∧Bw W w':=by
 have BB:Hid (Bw W W):=Below.refl _ _
 go_enter Tryz.func16,Tryz.ntmps16
 go_wp2_with (first
  | (go_at_call 58;refine (HC.out _ (sqE BB)).mono ?_;rintro e w1 ⟨rfl,hb⟩;have mmd:=kp2 (n:=W.heap.size) hb;(try clear mmB mm0 mm1 mmf mmL mmN);obtain ⟨mmB,mm0,mm1,mmf,mmL,mmN⟩:=mmd;have rrd:=kp8 (n:=W.heap.size+1) hb (by first|omega|(simp;try omega)) (Za _ _ (by simp));(try clear rrB rr0 rr1 rr2 rr3 rr4 rr5 rr6 rr7 rrf rrL rrN);obtain ⟨rrB,rr0,rr1,rr2,rr3,rr4,rr5,rr6,rr7,rrf,rrL,rrN⟩:=rrd;have BB2:Bw W w1:=Zb (sqE BB) hb;clear BB;have BB:Hid (Bw W w1):=BB2;clear BB2;clear hb)
  | (go_at_call 12;refine (HR.out _ (sqE BB)).mono ?_;rintro e w2 ⟨⟨vr,rfl,ho⟩,hb⟩;have O2:Hid (w2.ownsRow w1.heap.size 38 2 vr n (Zf R)):=ho;clear ho;have mmd:=kp2 (n:=W.heap.size) hb;(try clear mmB mm0 mm1 mmf mmL mmN);obtain ⟨mmB,mm0,mm1,mmf,mmL,mmN⟩:=mmd;have rrd:=kp8 (n:=W.heap.size+1) hb (by first|omega|(simp;try omega)) (rrB.out);(try clear rrB rr0 rr1 rr2 rr3 rr4 rr5 rr6 rr7 rrf rrL rrN);obtain ⟨rrB,rr0,rr1,rr2,rr3,rr4,rr5,rr6,rr7,rrf,rrL,rrN⟩:=rrd;have BB2:Bw W w2:=Zb (sqE BB) hb;clear BB;have BB:Hid (Bw W w2):=BB2;clear BB2;clear hb)
  | (go_at_call 59;refine (HT.out _ _ _ O2.out).mono ?_;rintro e w3 ⟨rfl,hb⟩;have mmd:=kp2 (n:=W.heap.size) hb;(try clear mmB mm0 mm1 mmf mmL mmN);obtain ⟨mmB,mm0,mm1,mmf,mmL,mmN⟩:=mmd;have rrd:=kp8 (n:=W.heap.size+1) hb (by first|omega|(simp;try omega)) (rrB.out);(try clear rrB rr0 rr1 rr2 rr3 rr4 rr5 rr6 rr7 rrf rrL rrN);obtain ⟨rrB,rr0,rr1,rr2,rr3,rr4,rr5,rr6,rr7,rrf,rrL,rrN⟩:=rrd;have BB2:Bw W w3:=Zb (sqE BB) hb;clear BB;have BB:Hid (Bw W w3):=BB2;clear BB2;clear hb)
  | (go_at_call 53;refine (HE.out _ (sqE BB)).mono ?_;rintro e w4 ⟨rfl,hb⟩;have rrd:=kp8 (n:=W.heap.size+1) hb (by first|omega|(simp;try omega)) (rrB.out);(try clear rrB rr0 rr1 rr2 rr3 rr4 rr5 rr6 rr7 rrf rrL rrN);obtain ⟨rrB,rr0,rr1,rr2,rr3,rr4,rr5,rr6,rr7,rrf,rrL,rrN⟩:=rrd;have BB2:Bw W w4:=Zb (sqE BB) hb;clear BB;have BB:Hid (Bw W w4):=BB2;clear BB2;clear hb))
 exact bodyPost_ret (v:=.tuple #[.agg #[.int .i64 r1,.int .i64 r2,.int .i64 k1,.int .i64 k2,.int .i64 ee,.int .i64 v1,.int .i64 v2,.int .i64 ff],.int .i64 0]) (by simp [results,Tryz.results16,go_sem, *]) rfl ⟨rfl,(sqE BB)⟩
theorem lok_c {b:Nat} {ps:List Plc} {W:World} (h:WAt b ps W) (hW:WI ps) (r m1 m2:Int):Calls Tryz.prog 16 #[.pointer (some ⟨b,0,none⟩),.int .i64 r,.agg #[.int .i64 m1,.int .i64 m2]] W fun e w'=>e=.returned (.tuple #[(lokR ps r (m1,m2)).1.agg,.int .i64 (lokR ps r (m1,m2)).2])∧Bw W w':=by
 have HC:∀ w,Bw W w→Calls Tryz.prog 58 #[.pointer (some ⟨b,0,none⟩),.agg #[.int .i64 m1,.int .i64 m2]] w fun e w'=>e=.returned (.int .i64 (if (Zm ps m1 m2).isSome then 0 else 3))∧Bw w w':=fun w hb=>chkI_c (h.below hb) hW m1 m2
 unfold lokR
 cases hm:Zm ps m1 m2 with
 | none =>
   rw [hm] at HC
   exact lok_1 W b r m1 m2 3 (by decide) HC
 | some x =>
   rw [hm] at HC
   simp only
   by_cases h0:itE ps r=0
   ·rw [if_pos h0]
    have HR:∀ w,Bw W w→Calls Tryz.prog 12 #[.pointer (some ⟨b,0,none⟩),.int .i64 r] w fun e w'=>(∃ v,e=.returned (.tuple #[v,.int .i64 0])∧w'.ownsRow w.heap.size 38 2 v (rtsR ps r).length (Zf (rtsR ps r)))∧Bw w w':=fun w hb=>by
     have:=Zke (h.below hb) hW r
     rw [h0] at this
     exact this
    have hlen:(rtsR ps r).length≤1000000000:=by
     rcases Zec ps r with ⟨_,k,q,rfl,hq,_,hr⟩|⟨hr,_⟩
     ·rw [hr];exact Nat.le_trans (Zka hW hq) (by decide)
     ·rw [hr];exact Nat.zero_le _
    have HT:∀ N v w,w.ownsRow N 38 2 v (rtsR ps r).length (Zf (rtsR ps r))→Calls Tryz.prog 59 #[v,.agg #[.int .i64 m1,.int .i64 m2]] w fun e w'=>e=.returned (.bool (decide ((m1,m2)∈rtsR ps r)))∧Bw w w':=fun N v w ho=>contMI_c N _ _ rfl v m1 m2 w ho hlen
    by_cases hin:(m1,m2)∈rtsR ps r
    ·rw [if_pos hin]
     rw [decide_eq_true hin] at HT
     exact lok_4 W b r m1 m2 _ _ _ _ _ _ _ _ HC (rtsR ps r) _ HR HT (fun w hb=>Zl4 (h.below hb) hW r m1 m2)
    ·rw [if_neg hin]
     rw [decide_eq_false hin] at HT
     exact lok_3 W b r m1 m2 HC (rtsR ps r) _ HR HT
   ·rw [if_neg h0]
    exact lok_2 W b r m1 m2 _ (by simp [h0]) HC (fun w hb=>Zhr (h.below hb) hW r h0)
def ifcC (cs:List Cls) (i:Int):Bool:=match clsI cs i with
 | some c=>hasI c.fl 512
 | none=>false
theorem Yy {b:Nat} {cs:List Cls} {W:World} (h:RAt b cs W) (i:Int):Calls Tryz.prog 61 #[.pointer (some ⟨b,0,none⟩),.int .i64 i] W fun e w'=>e=.returned (.bool (ifcC cs i))∧w'=W:=by
 have HI:Hid (∀ y,(clsI cs i).isSome=y→Calls Tryz.prog 68 #[.pointer (some ⟨b,0,none⟩),.int .i64 i] W fun e w'=>e=.returned (.bool y)∧w'=W):=fun y hy=>by rw [← hy];exact rIn_c h i
 rcases X7 cs i with ⟨h1,h2⟩|⟨k,c,rfl,h2,h1⟩
 ·have e:ifcC cs i=false:=by rw [ifcC,h1]
  rw [e]
  have HI:Hid (Calls Tryz.prog 68 #[.pointer (some ⟨b,0,none⟩),.int .i64 i] W fun e w'=>e=.returned (.bool false)∧w'=W):=HI.out false (by rw [h1];rfl)
  clear h h1 h2 e
  go_enter Tryz.func61,Tryz.ntmps61
  go_wp2_with (go_at_call 68;refine HI.out.mono ?_;rintro e w9 ⟨rfl,hw9⟩;rw [hw9];clear hw9 w9)
  exact bodyPost_ret (results_tmp rfl _ _ _) rfl ⟨rfl,rfl⟩
 ·have e:ifcC cs k=hasI c.fl 512:=by rw [ifcC,h1]
  rw [e]
  have HI:Hid (Calls Tryz.prog 68 #[.pointer (some ⟨b,0,none⟩),.int .i64 (k:Int)] W fun e w'=>e=.returned (.bool true)∧w'=W):=HI.out true (by rw [h1];rfl)
  obtain ⟨g,cap,vi,vm,b0,_,_,c0,c1,c2,c3,c4,c5,_⟩:=h.cells h2
  have hkI:(k:Int)<(cs.length:Int):=by have:=(List.getElem?_eq_some_iff.1 h2).1;omega
  have HF:Hid (∀ w:World,Calls Tryz.prog 62 #[.int .i64 c.fl,.int .i64 512] w fun e w'=>e=.returned (.bool (hasI c.fl 512))∧w'=w):=Zv c.fl 512
  generalize hasI c.fl 512=R at *
  clear h h1 h2 e
  go_enter Tryz.func61,Tryz.ntmps61
  go_wp2_with (first
   | (go_at_call 68;refine HI.out.mono ?_;rintro e w9 ⟨rfl,hw9⟩;rw [hw9];clear hw9 w9)
   | (go_at_call 62;refine (HF.out _).mono ?_;rintro e w9 ⟨rfl,hw9⟩;rw [hw9];clear hw9 w9))
  exact bodyPost_ret (results_tmp rfl _ _ _) rfl ⟨rfl,rfl⟩
def togB (p q:Cls):Bool:=(p.ld == q.ld)&&(pkgL p.nm.data.toList == pkgL q.nm.data.toList)
theorem rTog_c (p q:Cls) (vi vm vi' vm':Value) (hp:p.nm.size≤maxLen) (hq:q.nm.size≤maxLen) (W:World):Calls Tryz.prog 168 #[.agg #[.string p.nm,.string p.su,vi,.int .i64 p.fl,.int .i64 p.ld,vm],.agg #[.string q.nm,.string q.su,vi',.int .i64 q.fl,.int .i64 q.ld,vm']] W fun e w'=>e=.returned (.bool (togB p q))∧Bw W w':=by
 have HP:Hid (∀ u w,u=p.nm→Calls Tryz.prog 229 #[.string u] w fun e w'=>e=.returned (.string (pkB p.nm))∧w'=w):=fun u w hu=>by rw [hu];exact Za0 p.nm hp w
 have HQ:Hid (∀ u w,u=q.nm→Calls Tryz.prog 229 #[.string u] w fun e w'=>e=.returned (.string (pkB q.nm))∧w'=w):=fun u w hu=>by rw [hu];exact Za0 q.nm hq w
 have HR:Hid (togB p q=((p.ld == q.ld)&&((pkB p.nm).toList == (pkB q.nm).toList))):=by
  rw [Hid,togB,Lib.toList_data,Lib.toList_data];rfl
 generalize togB p q=R at *
 generalize pkB p.nm=s1 at *
 generalize pkB q.nm=s2 at *
 clear hp hq
 by_cases hld:p.ld=q.ld
 ·have hld2:(p.ld == q.ld)=true:=by rw [hld];simp
  cases hz:(s1.toList == s2.toList)
  all_goals
   rw [hld2,hz] at HR
   go_enter Tryz.func168,Tryz.ntmps168
   go_wp2
   go_quiet (first|(go_at_call 229;refine Calls.quiet_of_same (HP.out _ _ rfl))|(go_at_call 229;refine Calls.quiet_of_same (HQ.out _ _ rfl)))
   go_wp2
   exact bodyPost_ret (results_tmp rfl _ _ _) rfl ⟨by rw [HR.out];rfl,below_drewN sqR _⟩
 ·have hld2:(p.ld == q.ld)=false:=by simpa using hld
  rw [hld2] at HR
  go_enter Tryz.func168,Tryz.ntmps168
  go_wp2
  go_quiet (first|(go_at_call 229;refine Calls.quiet_of_same (HP.out _ _ rfl)))
  go_wp2
  exact bodyPost_ret (results_tmp rfl _ _ _) rfl ⟨by rw [HR.out];rfl,below_drewN sqR _⟩
def spC (cs:List Cls) (a b:Int):Bool:=match clsI cs a,clsI cs b with
 | some p,some q=>togB p q
 | _,_=>false
theorem Qv {w:World} {v:Value} {l:List (List UInt8)} (h:IsStrs w v l):∃ a c,v=.slice a l.length c:=by
 obtain ⟨a,c,e,_⟩:=h
 exact ⟨a,c,e⟩
theorem Xy {w:World} {v:Value} {l:List Mth} (h:IsMths w v l):∃ a c,v=.slice a l.length c:=by
 obtain ⟨a,c,e,_⟩:=h
 exact ⟨a,c,e⟩
theorem rSame_c {b:Nat} {cs:List Cls} {W:World} (h:RAt b cs W) (hz:∀ c∈cs,c.nm.size≤maxLen) (x y:Int):Calls Tryz.prog 214 #[.pointer (some ⟨b,0,none⟩),.int .i64 x,.int .i64 y] W fun e w'=>e=.returned (.bool (spC cs x y))∧Bw W w':=by
 obtain ⟨σ,V,hne,V1,V2⟩:=class_of' (fun w'=>Bw W w') ⟨_,Below.refl _ _⟩
 have HI:Hid (∀ i z y s,i=z→(clsI cs z).isSome=y→Calls Tryz.prog 68 #[.pointer (some ⟨b,0,none⟩),.int .i64 i] (V s) fun e w''=>e=.returned (.bool y)∧∃ s',w''=V s'):=fun i z y s hi hy=>by
  rw [hi,← hy];exact (rIn_c (h.below (V1.out s)) z).mono fun e w'' zz=>⟨zz.1,s,zz.2⟩
 rcases X7 cs x with ⟨h1,_⟩|⟨k,p,rfl,h2,h1⟩
 ·have e:spC cs x y=false:=by rw [spC,h1]
  rw [e]
  have HX:Hid (∀ i s,i=x→Calls Tryz.prog 68 #[.pointer (some ⟨b,0,none⟩),.int .i64 i] (V s) fun e w''=>e=.returned (.bool false)∧∃ s',w''=V s'):=fun i s hi=>HI.out i x _ s hi (by rw [h1];rfl)
  clear h h1 e HI
  go_enter Tryz.func214,Tryz.ntmps214
  go_wp2
  refine Ze (C:=fun w'=>∃ s,w'=V s) (by kernel_rfl) (by kernel_rfl) (V2.out _ ((Below.refl _ _).drew)) ?_
  repeat (go_big_quiet_step ((go_at_call 68;exact HX.out _ _ rfl)))
  refine wpQuiet_nil ?_
  intro w9 hw9
  obtain ⟨s9,rfl⟩:=hw9
  go_wp2
  exact bodyPost_ret (results_tmp rfl _ _ _) rfl ⟨rfl,V1.out s9⟩
 ·have HX:Hid (∀ i s,i=(k:Int)→Calls Tryz.prog 68 #[.pointer (some ⟨b,0,none⟩),.int .i64 i] (V s) fun e w''=>e=.returned (.bool true)∧∃ s',w''=V s'):=fun i s hi=>HI.out i k _ s hi (by rw [h1];rfl)
  rcases X7 cs y with ⟨g1,_⟩|⟨j,q,rfl,g2,g1⟩
  ·have e:spC cs k y=false:=by rw [spC,h1,g1]
   rw [e]
   have HY:Hid (∀ i s,i=y→Calls Tryz.prog 68 #[.pointer (some ⟨b,0,none⟩),.int .i64 i] (V s) fun e w''=>e=.returned (.bool false)∧∃ s',w''=V s'):=fun i s hi=>HI.out i y _ s hi (by rw [g1];rfl)
   clear h h1 g1 e HI h2
   go_enter Tryz.func214,Tryz.ntmps214
   go_wp2
   refine Ze (C:=fun w'=>∃ s,w'=V s) (by kernel_rfl) (by kernel_rfl) (V2.out _ ((Below.refl _ _).drew)) ?_
   repeat (go_big_quiet_step (first|(go_at_call 68;exact HX.out _ _ rfl)|(go_at_call 68;exact HY.out _ _ rfl)))
   refine wpQuiet_nil ?_
   intro w9 hw9
   obtain ⟨s9,rfl⟩:=hw9
   go_wp2
   exact bodyPost_ret (results_tmp rfl _ _ _) rfl ⟨rfl,V1.out s9⟩
  ·have e:spC cs k j=togB p q:=by rw [spC,h1,g1]
   rw [e]
   have HY:Hid (∀ i s,i=(j:Int)→Calls Tryz.prog 68 #[.pointer (some ⟨b,0,none⟩),.int .i64 i] (V s) fun e w''=>e=.returned (.bool true)∧∃ s',w''=V s'):=fun i s hi=>HI.out i j _ s hi (by rw [g1];rfl)
   have HT:Hid (∀ vi vm vi' vm' s,Calls Tryz.prog 168 #[.agg #[.string p.nm,.string p.su,vi,.int .i64 p.fl,.int .i64 p.ld,vm],.agg #[.string q.nm,.string q.su,vi',.int .i64 q.fl,.int .i64 q.ld,vm']] (V s) fun e w''=>e=.returned (.bool (togB p q))∧∃ s',w''=V s'):=fun vi vm vi' vm' s=>(rTog_c p q vi vm vi' vm' (hz p (List.mem_of_getElem? h2)) (hz q (List.mem_of_getElem? g2)) (V s)).mono fun e w'' zz=>⟨zz.1,V2.out _ (Zb (V1.out s) zz.2)⟩
   obtain ⟨g,cap,vi,vm,b0,hlt,hgl,c0,c1,c2,c3,c4,c5,hi1,hi2⟩:=h.cells h2
   obtain ⟨g',cap',vi',vm',b0',_,_,d0,d1,d2,d3,d4,d5,hi3,hi4⟩:=h.cells g2
   rw [b0] at b0'
   simp only [Option.some.injEq,Value.slice.injEq,Addr.mk.injEq,and_true,true_and] at b0'
   obtain ⟨rfl,rfl⟩:=b0'
   obtain ⟨x1,x2,rfl⟩:=Qv hi1
   obtain ⟨x3,x4,rfl⟩:=Xy hi2
   obtain ⟨x5,x6,rfl⟩:=Qv hi3
   obtain ⟨x7,x8,rfl⟩:=Xy hi4
   have kp:∀ (s:σ) (bb j:Nat) (v:Value),bb<W.heap.size→W.cell? ⟨bb,j,none⟩=some v→(V s).cell? ⟨bb,j,none⟩=some v:=fun s bb j v hl h=>((V1.out s).cell (p:=⟨bb,j,none⟩) hl).trans h
   replace b0:=fun s=>kp s _ _ _ hlt b0
   replace c0:=fun s=>kp s _ _ _ hgl c0
   replace c1:=fun s=>kp s _ _ _ hgl c1
   replace c2:=fun s=>kp s _ _ _ hgl c2
   replace c3:=fun s=>kp s _ _ _ hgl c3
   replace c4:=fun s=>kp s _ _ _ hgl c4
   replace c5:=fun s=>kp s _ _ _ hgl c5
   replace d0:=fun s=>kp s _ _ _ hgl d0
   replace d1:=fun s=>kp s _ _ _ hgl d1
   replace d2:=fun s=>kp s _ _ _ hgl d2
   replace d3:=fun s=>kp s _ _ _ hgl d3
   replace d4:=fun s=>kp s _ _ _ hgl d4
   replace d5:=fun s=>kp s _ _ _ hgl d5
   have hxI:(k:Int)<(cs.length:Int):=by have:=(List.getElem?_eq_some_iff.1 h2).1;omega
   have hyI:(j:Int)<(cs.length:Int):=by have:=(List.getElem?_eq_some_iff.1 g2).1;omega
   generalize togB p q=R at *
   clear h h1 h2 g1 g2 e kp hlt hgl HI hi1 hi2 hi3 hi4 hz
   go_enter Tryz.func214,Tryz.ntmps214
   go_wp2
   refine Ze (C:=fun w'=>∃ s,w'=V s) (by kernel_rfl) (by kernel_rfl) (V2.out _ ((Below.refl _ _).drew)) ?_
   repeat (go_big_quiet_step (first|(go_at_call 68;exact HX.out _ _ rfl)|(go_at_call 68;exact HY.out _ _ rfl)|(go_at_call 168;exact HT.out _ _ _ _ _)))
   refine wpQuiet_nil ?_
   intro w9 hw9
   obtain ⟨s9,rfl⟩:=hw9
   go_wp2
   exact bodyPost_ret (results_tmp rfl _ _ _) rfl ⟨rfl,V1.out s9⟩
theorem rOpen_c (c p:Cls) (vi vm vi' vm':Value) (hc:c.nm.size≤maxLen) (hp:p.nm.size≤maxLen) (W:World):Calls Tryz.prog 105 #[.agg #[.string c.nm,.string c.su,vi,.int .i64 c.fl,.int .i64 c.ld,vm],.agg #[.string p.nm,.string p.su,vi',.int .i64 p.fl,.int .i64 p.ld,vm']] W fun e w'=>e=.returned (.bool (hasI p.fl 1||togB c p))∧Bw W w':=by
 have HT:Hid (∀ w,Calls Tryz.prog 168 #[.agg #[.string c.nm,.string c.su,vi,.int .i64 c.fl,.int .i64 c.ld,vm],.agg #[.string p.nm,.string p.su,vi',.int .i64 p.fl,.int .i64 p.ld,vm']] w fun e w'=>e=.returned (.bool (togB c p))∧Bw w w'):=fun w=>rTog_c c p vi vm vi' vm' hc hp w
 have HF:Hid (∀ w:World,Calls Tryz.prog 62 #[.int .i64 p.fl,.int .i64 1] w fun e w'=>e=.returned (.bool (hasI p.fl 1))∧w'=w):=Zv p.fl 1
 generalize hasI p.fl 1=b1 at *
 generalize togB c p=b2 at *
 clear hc hp
 cases b1
 all_goals
  go_enter Tryz.func105,Tryz.ntmps105
  go_wp2_with (first
   | (go_at_call 62;refine (HF.out _).mono ?_;rintro e w9 ⟨rfl,hw9⟩;rw [hw9];clear hw9 w9)
   | (go_at_call 168;refine (HT.out _).mono ?_;rintro e w1 ⟨rfl,hb⟩;have B1:Hid (Bw W w1):=Zb sqR hb;clear hb HT))
  first
   | exact bodyPost_ret (results_tmp rfl _ _ _) rfl ⟨rfl,B1.out⟩
   | exact bodyPost_ret (results_tmp rfl _ _ _) rfl ⟨rfl,sqR⟩
structure CpR (W wr:World) (nm su:ByteArray) (fl ld:Int) (ai0 am0 ai:Option Addr) (ni ci0 capi M cm0 gm:Nat) (xi:List Value) (pm qm:List (HM×Value)) (k:Nat):Prop where
 bc:wr.heap[W.heap.size]?=some (.cells #[.string nm,.string su,.slice ai0 ni ci0,.int .i64 fl,.int .i64 ld,.slice am0 M cm0] 73 (0,0))
 br:wr.heap[W.heap.size+1]?=some (.cells #[.string ⟨#[]⟩,.string ⟨#[]⟩,.slice none 0 0,.int .i64 0,.int .i64 0,.slice none 0 0] 73 (0,0))
 bd:wr.heap[W.heap.size+1+1]?=some (.cells #[.string nm,.string su,.slice ai ni capi,.int .i64 fl,.int .i64 ld,.slice (some ⟨gm,0,none⟩) M M] 73 (0,0))
 ifs:wr.ownsRow (W.heap.size+1+1+1) 9 1 (.slice ai ni capi) ni xi
 len:qm.length=M
 ms:wr.ownsRow (W.heap.size+1+1+1) 87 6 (.slice (some ⟨gm,0,none⟩) M M) M (Z0 qm)
 eq:∀ j<k,(qm[j]?).map Prod.fst=(pm[j]?).map Prod.fst
 old:∀ j p,qm[j]?=some p→j<k→wr.ownsRow (W.heap.size+1+1+1) 91 7 p.2 p.1.n p.1.xs
 below:Bw W wr
def hm0:HM×Value:=(⟨⟨#[]⟩,⟨#[]⟩,0,0,0,0,[]⟩,.slice none 0 0)
theorem Zlc (M:Nat):(madeCells (Value.agg #[.string ⟨#[]⟩,.string ⟨#[]⟩,.int .i64 0,.int .i64 0,.int .i64 0,.slice none 0 0]).cells (M * 6)).toList=Z0 (List.replicate M hm0):=by
 refine List.ext_getElem? fun j=>?_
 by_cases hj:j<M * 6
 ·have hq:j / 6<M:=by omega
  have h:=Zy (List.replicate M hm0) (j / 6) hm0 (by simp [hq]) (j % 6) (Nat.mod_lt _ (by decide))
  rw [show j / 6 * 6+j % 6=j by omega] at h
  rw [h]
  have e:∀ r,r<6→(hmC hm0)[r]?=some ((Value.agg #[.string ⟨#[]⟩,.string ⟨#[]⟩,.int .i64 0,.int .i64 0,.int .i64 0,.slice none 0 0]).cells[r]!):=fun r hr=>by
   match r,hr with
   | 0,_=>rfl
   | 1,_=>rfl
   | 2,_=>rfl
   | 3,_=>rfl
   | 4,_=>rfl
   | 5,_=>rfl
  rw [e _ (Nat.mod_lt _ (by decide))]
  simp [madeCells,hj]
  rfl
 ·rw [List.getElem?_eq_none (by simp [size_madeCells];omega),List.getElem?_eq_none (by rw [Xo];simp;omega)]
theorem Zlr (l:List (HM×Value)) (k:Nat) (m:HM) (u:Value) (hk:k<l.length):((((((Z0 l).set (k * 6) (.string m.nm)).set (k * 6+1) (.string m.ds)).set (k * 6+2) (.int .i64 m.fl)).set (k * 6+3) (.int .i64 m.lo)).set (k * 6+4) (.int .i64 m.st)).set (k * 6+5) u=Z0 (l.set k (m,u)):=by
 induction l generalizing k with
 | nil=>simp at hk
 | cons t ts ih =>
   have e:∀ a b,Z0 (a::b)=hmC a++Z0 b:=fun a b=>by simp [Z0]
   cases k with
   | zero=>rw [List.set_cons_zero,e,e];simp [hmC]
   | succ k =>
     rw [List.set_cons_succ,e,e,← ih k (by simpa using hk)]
     have hs:∀ (r:Nat) (v:Value) (L:List Value),(hmC t++L).set ((k+1) * 6+r) v=hmC t++L.set (k * 6+r) v:=fun r v L=>by
      rw [List.set_append_right _ _ (by simp [hmC];omega)]
      congr 2
      simp [hmC];omega
     have h0:=hs 0
     simp only [Nat.add_zero] at h0
     rw [h0,hs 1,hs 2,hs 3,hs 4,hs 5]
theorem CpR.put {W wr:World} {nm su:ByteArray} {fl ld:Int} {ai0 am0 ai:Option Addr} {ni ci0 capi M cm0 g:Nat} {xi:List Value} {pm qm:List (HM×Value)} {k:Nat} (h:CpR W wr nm su fl ld ai0 am0 ai ni ci0 capi M cm0 g xi pm qm k) (hk:k<M) (m:HM) (u:Value) :
 CpR W ((((((wr.setCell ⟨g,k * 6,none⟩ (.string m.nm)).setCell ⟨g,k * 6+1,none⟩ (.string m.ds)).setCell ⟨g,k * 6+2,none⟩ (.int .i64 m.fl)).setCell ⟨g,k * 6+3,none⟩ (.int .i64 m.lo)).setCell ⟨g,k * 6+4,none⟩ (.int .i64 m.st)).setCell ⟨g,k * 6+5,none⟩ u).drew nm su fl ld ai0 am0 ai ni ci0 capi M cm0 g xi pm (qm.set k (m,u)) k:=by
 obtain ⟨hgN,hglt⟩:=h.ms.lt g rfl
 obtain ⟨cur,hcur⟩:=Zbr h.ms
 obtain ⟨s0,_⟩:=h.ms.stored (k * 6) (.string m.nm)
 obtain ⟨s1,_⟩:=s0.stored (k * 6+1) (.string m.ds)
 obtain ⟨s2,_⟩:=s1.stored (k * 6+2) (.int .i64 m.fl)
 obtain ⟨s3,_⟩:=s2.stored (k * 6+3) (.int .i64 m.lo)
 obtain ⟨s4,_⟩:=s3.stored (k * 6+4) (.int .i64 m.st)
 obtain ⟨s5,_⟩:=s4.stored (k * 6+5) u
 rw [Zlr qm k m u (by rw [h.len];exact hk)] at s5
 have G:wr.grownBy ((((((wr.setCell ⟨g,k * 6,none⟩ (.string m.nm)).setCell ⟨g,k * 6+1,none⟩ (.string m.ds)).setCell ⟨g,k * 6+2,none⟩ (.int .i64 m.fl)).setCell ⟨g,k * 6+3,none⟩ (.int .i64 m.lo)).setCell ⟨g,k * 6+4,none⟩ (.int .i64 m.st)).setCell ⟨g,k * 6+5,none⟩ u) (some g) :=
  (Zz _ g _ _).trans ((Zz _ g _ _).trans ((Zz _ g _ _).trans ((Zz _ g _ _).trans ((Zz _ g _ _).trans (Zz _ g _ _)))))
 generalize ((((((wr.setCell ⟨g,k * 6,none⟩ (.string m.nm)).setCell ⟨g,k * 6+1,none⟩ (.string m.ds)).setCell ⟨g,k * 6+2,none⟩ (.int .i64 m.fl)).setCell ⟨g,k * 6+3,none⟩ (.int .i64 m.lo)).setCell ⟨g,k * 6+4,none⟩ (.int .i64 m.st)).setCell ⟨g,k * 6+5,none⟩ u)=w6 at *
 have B6:Bw W w6:=h.below.grown G h.below.size (fun k hk=>by cases hk;omega)
 refine ⟨(G.block _ (Array.getElem?_eq_some_iff.1 h.bc).1 (by simp;omega)).trans h.bc,(G.block _ (Array.getElem?_eq_some_iff.1 h.br).1 (by simp;omega)).trans h.br,(G.block _ (Array.getElem?_eq_some_iff.1 h.bd).1 (by simp;omega)).trans h.bd,(h.ifs.kept G (Zq h.ifs hcur (by decide))).drew,by rw [List.length_set];exact h.len,s5.drew,?_,?_,B6.drew⟩
 ·intro j hj
  rw [List.getElem?_set_ne (by omega)]
  exact h.eq j hj
 ·intro j p hj hjk
  rw [List.getElem?_set_ne (by omega)] at hj
  have:=h.old j p hj hjk
  exact (this.kept G (Zq this hcur (by decide))).drew
theorem CpR.next {W wr w5:World} {nm su:ByteArray} {fl ld:Int} {ai0 am0 ai:Option Addr} {ni ci0 capi M cm0 g:Nat} {xi:List Value} {pm qm:List (HM×Value)} {k:Nat} {m:HM} {u u0 v':Value} (h:CpR W wr nm su fl ld ai0 am0 ai ni ci0 capi M cm0 g xi pm qm k) (hq:qm[k]?=some (m,u)) (hp:pm[k]?=some (m,u0)) (hb:Bw wr w5) (ho:w5.ownsRow (W.heap.size+1+1+1) 91 7 v' m.n m.xs) :
 CpR W (w5.setCell ⟨g,k * 6+5,none⟩ v') nm su fl ld ai0 am0 ai ni ci0 capi M cm0 g xi pm (qm.set k (m,v')) (k+1):=by
 have hms:=Zd h.ms hb
 obtain ⟨hgN,hglt⟩:=hms.lt g rfl
 obtain ⟨cur,hcur⟩:=Zbr hms
 obtain ⟨s5,G⟩:=hms.stored (k * 6+5) v'
 rw [Zf4 qm k m u v' hq] at s5
 have hif:=Zd h.ifs hb
 have hkq:k<qm.length:=(List.getElem?_eq_some_iff.1 hq).1
 refine ⟨(G.block _ (Nat.lt_of_lt_of_le (Array.getElem?_eq_some_iff.1 h.bc).1 hb.size) (by simp;omega)).trans ((hb.block _ (Array.getElem?_eq_some_iff.1 h.bc).1).trans h.bc),(G.block _ (Nat.lt_of_lt_of_le (Array.getElem?_eq_some_iff.1 h.br).1 hb.size) (by simp;omega)).trans ((hb.block _ (Array.getElem?_eq_some_iff.1 h.br).1).trans h.br),(G.block _ (Nat.lt_of_lt_of_le (Array.getElem?_eq_some_iff.1 h.bd).1 hb.size) (by simp;omega)).trans ((hb.block _ (Array.getElem?_eq_some_iff.1 h.bd).1).trans h.bd),(hif.kept G (Zq hif hcur (by decide))),by rw [List.length_set];exact h.len,s5,?_,?_,((h.below.trans (hb.mono h.below.size)).grown G (Nat.le_trans h.below.size hb.size) (fun k hk=>by cases hk;omega))⟩
 ·intro j hj
  by_cases e:j=k
  ·subst e
   rw [List.getElem?_set_self hkq,hp];rfl
  ·rw [List.getElem?_set_ne (fun e2=>e e2.symm)]
   exact h.eq j (by omega)
 ·intro j p hj hjk
  by_cases e:j=k
  ·subst e
   rw [List.getElem?_set_self hkq] at hj
   cases hj
   exact (ho.kept G (Zq ho hcur (by decide)))
  ·rw [List.getElem?_set_ne (fun e2=>e e2.symm)] at hj
   have:=Zd (h.old j p hj (by omega)) hb
   exact (this.kept G (Zq this hcur (by decide)))
theorem Zkr (nm su:ByteArray) (fl ld:Int) (vi vm:Value) (ni:Nat) (xi:List Value) (pm:List (HM×Value)) (W:World) (hi:Rdw W vi ni 1 xi) (hi1:∀ u∈xi,u.oneCell'=true) (hni:ni≤8796093022208)
 (hm:Rdw W vm pm.length 6 (Z0 pm)) (hnm:pm.length≤1759218604390) (hc:∀ p∈pm,Rdw W p.2 p.1.n 7 p.1.xs∧(∀ u∈p.1.xs,u.oneCell'=true)∧p.1.n≤1599289640354) :
 Calls Tryz.prog 99 #[.agg #[.string nm,.string su,vi,.int .i64 fl,.int .i64 ld,vm]] W fun e w'=>∃ vi' vm' qm,e=.returned (.agg #[.string nm,.string su,vi',.int .i64 fl,.int .i64 ld,vm'])∧OwnC w' W.heap.size vi' ni xi vm' qm∧qm.map Prod.fst=pm.map Prod.fst∧Bw W w':=by
 obtain ⟨ai0,ci0,rfl⟩:=hi.slice
 obtain ⟨am0,cm0,rfl⟩:=hm.slice
 obtain ⟨i0,hi0,hz0,hz1,hz2⟩:=info_parts Tryz.hinfo9
 have HI:Hid (Rdw W (.slice ai0 ni ci0) ni 1 xi):=hi
 have HM':Hid (Rdw W (.slice am0 pm.length cm0) pm.length 6 (Z0 pm)):=hm
 have HC:Hid (∀ p∈pm,Rdw W p.2 p.1.n 7 p.1.xs∧(∀ u∈p.1.xs,u.oneCell'=true)∧p.1.n≤1599289640354):=hc
 have HI1:Hid (∀ u∈xi,u.oneCell'=true):=hi1
 obtain ⟨M,hM⟩:∃ M,pm.length=M:=⟨_,rfl⟩
 have HML:Hid (pm.length=M):=hM
 rw [hM] at hnm ⊢
 clear hi hm hc hM hi1
 go_enter Tryz.func99,Tryz.ntmps99
 go_wp2_with (at_builtin;refine Yx rfl _ _ 70 rfl (W.heap.size+1+1+1) 9 i0 (.string ⟨#[]⟩) 1 16 Tryz.underlying70 hi0 hz0 hz1 hz2 rfl (by decide) (.slice (some ⟨W.heap.size+1+1+1,0,none⟩) 0 0) 0 [] rfl (Zb0 _ _ (by simp) _ _ _ (by simp)) (.slice ai0 ni ci0) ni xi rfl (HI.out.keep sqR) HI1.out ?c1 ?c2 ?c3 ?_)
 case c1=>unfold maxLen;omega
 case c2=>omega
 case c3=>simp
 intro v' w1 hown hgrow
 obtain ⟨ai,capi,rfl⟩:=ownv hown
 have sz1:=hgrow.size
 simp only [World.size_alloc] at sz1
 have ob:∀ j,j<W.heap.size+1+1+1→some j≠(Value.slice (some ⟨W.heap.size+1+1+1,0,none⟩) 0 0).ownBlock:=fun j hj=>by simp [Value.ownBlock];omega
 have hbc:w1.heap[W.heap.size]?=some (.cells #[.string nm,.string su,.slice ai0 ni ci0,.int .i64 fl,.int .i64 ld,.slice am0 M cm0] 73 (0,0)):=by
  rw [hgrow.block _ (by simp;try omega) (ob _ (by omega))]
  exact (Below.heap_alloc _ _ _ (by simp;try omega)).trans ((Below.heap_alloc _ _ _ (by simp;try omega)).trans (heap_alloc2_old W _ _))
 have hbr:w1.heap[W.heap.size+1]?=some (.cells #[.string ⟨#[]⟩,.string ⟨#[]⟩,.slice none 0 0,.int .i64 0,.int .i64 0,.slice none 0 0] 73 (0,0)):=by
  rw [hgrow.block _ (by simp;try omega) (ob _ (by omega))]
  exact (Below.heap_alloc _ _ _ (by simp;try omega)).trans ((Below.heap_alloc _ _ _ (by simp)).trans (heap_alloc2_new W _ _))
 have hbd:w1.heap[W.heap.size+1+1]?=some (.cells #[.string nm,.string su,.slice ai0 ni ci0,.int .i64 fl,.int .i64 ld,.slice am0 M cm0] 73 (0,0)):=by
  rw [hgrow.block _ (by simp) (ob _ (by omega))]
  refine (Below.heap_alloc _ _ _ (by simp)).trans ?_
  have:=Zo ((W.alloc (.cells #[.string nm,.string su,.slice ai0 ni ci0,.int .i64 fl,.int .i64 ld,.slice am0 M cm0] 73)).alloc (.cells #[.string ⟨#[]⟩,.string ⟨#[]⟩,.slice none 0 0,.int .i64 0,.int .i64 0,.slice none 0 0] 73)) (.cells #[.string nm,.string su,.slice ai0 ni ci0,.int .i64 fl,.int .i64 ld,.slice am0 M cm0] 73)
  simpa using this
 have B1:Hid (Bw W w1):=by
  refine Below.grown (w:=_) ?_ hgrow (by simp;try omega) (fun k hk=>by simp [Value.ownBlock] at hk;omega)
  exact sqR
 have O1:Hid (w1.ownsRow (W.heap.size+1+1+1) 9 1 (.slice ai ni capi) ni xi):=hown
 have hc5:=cell_of_row w1 W.heap.size 5 _ _ _ hbc
 have d0:=cell_of_row w1 (W.heap.size+1+1) 0 _ _ _ hbd
 have e0:=frozen_of_row w1 (W.heap.size+1+1) 0 _ _ hbd
 have d1:=cell_of_row w1 (W.heap.size+1+1) 1 _ _ _ hbd
 have e1:=frozen_of_row w1 (W.heap.size+1+1) 1 _ _ hbd
 have d2:=cell_of_row w1 (W.heap.size+1+1) 2 _ _ _ hbd
 have e2:=frozen_of_row w1 (W.heap.size+1+1) 2 _ _ hbd
 have d3:=cell_of_row w1 (W.heap.size+1+1) 3 _ _ _ hbd
 have e3:=frozen_of_row w1 (W.heap.size+1+1) 3 _ _ hbd
 have d4:=cell_of_row w1 (W.heap.size+1+1) 4 _ _ _ hbd
 have e4:=frozen_of_row w1 (W.heap.size+1+1) 4 _ _ hbd
 have d5:=cell_of_row w1 (W.heap.size+1+1) 5 _ _ _ hbd
 have e5:=frozen_of_row w1 (W.heap.size+1+1) 5 _ _ hbd
 simp only [List.getElem?_toArray,List.getElem?_cons_zero,List.getElem?_cons_succ] at hc5 d0 d1 d2 d3 d4 d5
 have HBC:Hid _:=hbc
 have HBR:Hid _:=hbr
 have HBD:Hid _:=hbd
 clear hown hgrow ob hbc hbr hbd HI HI1
 obtain ⟨iM,hiM,hzM,hsM,hbM⟩:=info_parts Tryz.hinfo58
 have hmk:∀ w:World,(Instr.makeSlice 71 (.int .i64 (M:Int)) (.int .i64 (M:Int))).run Tryz.prog w=.ok (.slice (some ⟨w.heap.size,0,none⟩) M M) (w.alloc (.cells (madeCells (Value.agg #[.string ⟨#[]⟩,.string ⟨#[]⟩,.int .i64 0,.int .i64 0,.int .i64 0,.slice none 0 0]).cells (M * 6)) 87)):=fun w=>by
  have:=run_make w (P:=Tryz.prog) 71 87 iM _ Tryz.underlying71 hiM hzM .i64 .i64 (M:Int) (M:Int) (by omega) (Int.le_refl _) (by rw [hbM];omega) (by omega)
  rw [hsM,Int.toNat_natCast] at this
  exact this
 have hn2:¬ W.heap.size+1+1=w1.heap.size:=by omega
 have hl2:W.heap.size+1+1<w1.heap.size:=by omega
 have hn0:¬ W.heap.size=w1.heap.size:=by omega
 have hz:=Zlc M
 have HZ:Hid _:=hz
 generalize madeCells (Value.agg #[.string ⟨#[]⟩,.string ⟨#[]⟩,.int .i64 0,.int .i64 0,.int .i64 0,.slice none 0 0]).cells (M * 6)=ZC at *
 have hl1:W.heap.size+1<w1.heap.size:=by omega
 have hl0:W.heap.size<w1.heap.size:=by omega
 have HR0:Hid (CpR W (((w1.setCell ⟨W.heap.size+1+1,2,none⟩ (.slice ai ni capi)).setCell ⟨W.heap.size+1+1,5,none⟩ (.slice (some ⟨w1.heap.size,0,none⟩) M M)).alloc (.cells ZC 87)) nm su fl ld ai0 am0 ai ni ci0 capi M cm0 w1.heap.size xi pm (List.replicate M hm0) 0):=by
  have hne0:W.heap.size≠W.heap.size+1+1:=by omega
  have hne1:W.heap.size+1≠W.heap.size+1+1:=by omega
  have hd1:=heap_setCell_same w1 (W.heap.size+1+1) 2 _ 73 (.slice ai ni capi) HBD.out
  have hd2:=heap_setCell_same _ (W.heap.size+1+1) 5 _ 73 (.slice (some ⟨w1.heap.size,0,none⟩) M M) hd1
  have szs:((w1.setCell ⟨W.heap.size+1+1,2,none⟩ (.slice ai ni capi)).setCell ⟨W.heap.size+1+1,5,none⟩ (.slice (some ⟨w1.heap.size,0,none⟩) M M)).heap.size=w1.heap.size:=by simp
  refine ⟨?_,?_,?_,?_,by simp,?_,fun j hj=>absurd hj (Nat.not_lt_zero _),fun j p _ hj=>absurd hj (Nat.not_lt_zero _),?_⟩
  ·exact (Below.heap_alloc _ _ _ (by rw [szs];exact hl0)).trans ((heap_setCell_other _ _ _ _ hne0).trans ((heap_setCell_other _ _ _ _ hne0).trans HBC.out))
  ·exact (Below.heap_alloc _ _ _ (by rw [szs];exact hl1)).trans ((heap_setCell_other _ _ _ _ hne1).trans ((heap_setCell_other _ _ _ _ hne1).trans HBR.out))
  ·exact (Below.heap_alloc _ _ _ (by rw [szs];exact hl2)).trans (hd2.trans rfl)
  ·exact (ownsRow_setCell_below (a:=⟨W.heap.size+1+1,5,none⟩) (ownsRow_setCell_below (a:=⟨W.heap.size+1+1,2,none⟩) O1.out (by simp) _) (by simp) _).alloc _
  ·have h:=World.ownsRow_lit (base:=W.heap.size+1+1+1) (e:=87) (size:=6) ((w1.setCell ⟨W.heap.size+1+1,2,none⟩ (.slice ai ni capi)).setCell ⟨W.heap.size+1+1,5,none⟩ (.slice (some ⟨w1.heap.size,0,none⟩) M M)) ZC M (by rw [szs];omega) (by unfold maxLen;omega) (by have:=congrArg List.length HZ.out;rw [Xo] at this;simpa using this)
   rw [szs,HZ.out] at h
   exact h
  ·exact (((B1.out.setCell (p:=⟨W.heap.size+1+1,2,none⟩) (show W.heap.size≤W.heap.size+1+1 by omega) _).setCell (p:=⟨W.heap.size+1+1,5,none⟩) (show W.heap.size≤W.heap.size+1+1 by omega) _).alloc (by rw [szs];omega) _)
 go_wp2
 clear d0 d1 d2 d3 d4 d5 e0 e1 e2 e3 e4 e5 HBC HBR HBD O1 hc5 hmk HZ hz
 go_loopw [4] (fun kv wr=>∃ (k:Nat) (qm:List (HM×Value)),kv=.int .i64 k∧k≤M∧Hid (CpR W wr nm su fl ld ai0 am0 ai ni ci0 capi M cm0 w1.heap.size xi pm qm k)) (fun kv _=>M - (intOf kv).toNat)
 case atStart=>exact ⟨0,_,rfl,Nat.zero_le _,HR0⟩
 case round =>
  obtain ⟨k,qm,rfl,hk,hR⟩:=hrel
  clear HR0
  have c5:=cell_of_row wr W.heap.size 5 _ _ _ hR.out.bc
  have d5:=cell_of_row wr (W.heap.size+1+1) 5 _ _ _ hR.out.bd
  simp only [List.getElem?_toArray,List.getElem?_cons_zero,List.getElem?_cons_succ] at c5 d5
  generalize w1.heap.size=g at *
  by_cases hlt:k<M
  ·obtain ⟨⟨m,u⟩,hku⟩:∃ p,pm[k]?=some p:=⟨_,List.getElem?_eq_getElem (by rw [HML.out];exact hlt)⟩
   have hmem:=List.mem_of_getElem? hku
   obtain ⟨hcr,hc1,hcn⟩:=HC.out _ hmem
   simp only at hcr hc1 hcn
   obtain ⟨ua,uc,hu⟩:=hcr.slice
   subst hu
   obtain ⟨bk,o,rfl,hbk,hcell⟩:∃ bk o,am0=some ⟨bk,o,none⟩∧bk<W.heap.size∧∀ j,j<6→W.cell? ⟨bk,o+k * 6+j,none⟩=(hmC (m,.slice ua m.n uc))[j]?:=by
    rcases HM'.out with h|⟨e,_⟩
    ·rcases h.val with ⟨_,e⟩|⟨bk,o,cap,e,_,_,h3,h4⟩
     ·rw [HML.out] at e;omega
     ·simp only [Value.slice.injEq] at e
      refine ⟨bk,o,e.1,h3,fun j hj=>?_⟩
      have:=Zy pm k _ hku j hj
      have hs:∃ z,(hmC (m,.slice ua m.n uc))[j]?=some z:=⟨_,List.getElem?_eq_getElem (by simp [hmC];omega)⟩
      obtain ⟨z,hz⟩:=hs
      rw [hz,Nat.add_assoc]
      exact h4 _ z (this.trans hz)
    ·rw [HML.out] at e;omega
   have q0:wr.cell? ⟨bk,o+k * 6,none⟩=some (.string m.nm):=(hR.out.below.cell (p:=⟨bk,o+k * 6,none⟩) hbk).trans (hcell 0 (by omega))
   have q1:wr.cell? ⟨bk,o+k * 6+1,none⟩=some (.string m.ds):=(hR.out.below.cell (p:=⟨bk,o+k * 6+1,none⟩) hbk).trans (hcell 1 (by omega))
   have q2:wr.cell? ⟨bk,o+k * 6+2,none⟩=some (.int .i64 m.fl):=(hR.out.below.cell (p:=⟨bk,o+k * 6+2,none⟩) hbk).trans (hcell 2 (by omega))
   have q3:wr.cell? ⟨bk,o+k * 6+3,none⟩=some (.int .i64 m.lo):=(hR.out.below.cell (p:=⟨bk,o+k * 6+3,none⟩) hbk).trans (hcell 3 (by omega))
   have q4:wr.cell? ⟨bk,o+k * 6+4,none⟩=some (.int .i64 m.st):=(hR.out.below.cell (p:=⟨bk,o+k * 6+4,none⟩) hbk).trans (hcell 4 (by omega))
   have q5:wr.cell? ⟨bk,o+k * 6+5,none⟩=some (.slice ua m.n uc):=(hR.out.below.cell (p:=⟨bk,o+k * 6+5,none⟩) hbk).trans (hcell 5 (by omega))
   obtain ⟨hgN,hglt⟩:=hR.out.ms.lt g rfl
   obtain ⟨⟨m',u'⟩,hqk⟩:∃ p,qm[k]?=some p:=⟨_,List.getElem?_eq_getElem (by rw [hR.out.len];exact hlt)⟩
   have hat:=fun j hj=>(hR.out.ms.cellAt (k * 6+j) (by omega)).trans (Zy qm k _ hqk j hj)
   have t0:wr.cell? ⟨g,k * 6,none⟩=some (.string m'.nm):=hat 0 (by omega)
   have t1:wr.cell? ⟨g,k * 6+1,none⟩=some (.string m'.ds):=hat 1 (by omega)
   have t2:wr.cell? ⟨g,k * 6+2,none⟩=some (.int .i64 m'.fl):=hat 2 (by omega)
   have t3:wr.cell? ⟨g,k * 6+3,none⟩=some (.int .i64 m'.lo):=hat 3 (by omega)
   have t4:wr.cell? ⟨g,k * 6+4,none⟩=some (.int .i64 m'.st):=hat 4 (by omega)
   have t5:wr.cell? ⟨g,k * 6+5,none⟩=some u':=hat 5 (by omega)
   have f0:=hR.out.ms.frozenAt (k * 6)
   have f1:=hR.out.ms.frozenAt (k * 6+1)
   have f2:=hR.out.ms.frozenAt (k * 6+2)
   have f3:=hR.out.ms.frozenAt (k * 6+3)
   have f4:=hR.out.ms.frozenAt (k * 6+4)
   have f5:=hR.out.ms.frozenAt (k * 6+5)
   have hkI:(k:Int)<(M:Int):=by omega
   have hnc:¬ W.heap.size=g:=by omega
   have hnd:¬ W.heap.size+1+1=g:=by omega
   have hnb:¬ bk=g:=by have:=hbk;omega
   clear hcell hat hmem
   go_wp2
   go_region
   have hR2:=hR.out.put hlt m (.slice ua m.n uc)
   generalize ((((((wr.setCell ⟨g,k * 6,none⟩ (.string m.nm)).setCell ⟨g,k * 6+1,none⟩ (.string m.ds)).setCell ⟨g,k * 6+2,none⟩ (.int .i64 m.fl)).setCell ⟨g,k * 6+3,none⟩ (.int .i64 m.lo)).setCell ⟨g,k * 6+4,none⟩ (.int .i64 m.st)).setCell ⟨g,k * 6+5,none⟩ (.slice ua m.n uc)).drew=W2 at *
   have HR2:Hid (CpR W W2 nm su fl ld ai0 (some ⟨bk,o,none⟩) ai ni ci0 capi M cm0 g xi pm (qm.set k (m,.slice ua m.n uc)) k):=hR2
   have hq2:(qm.set k (m,Value.slice ua m.n uc))[k]?=some (m,.slice ua m.n uc):=List.getElem?_set_self (by rw [hR.out.len];exact hlt)
   have c5':=cell_of_row W2 W.heap.size 5 _ _ _ hR2.bc
   have d5':=cell_of_row W2 (W.heap.size+1+1) 5 _ _ _ hR2.bd
   simp only [List.getElem?_toArray,List.getElem?_cons_zero,List.getElem?_cons_succ] at c5' d5'
   have q5':W2.cell? ⟨bk,o+k * 6+5,none⟩=some (.slice ua m.n uc):=(hR2.below.cell (p:=⟨bk,o+k * 6+5,none⟩) hbk).trans ((hR.out.below.cell (p:=⟨bk,o+k * 6+5,none⟩) hbk).symm.trans q5)
   obtain ⟨hgN2,hglt2⟩:=hR2.ms.lt g rfl
   have HQ2:Hid ((qm.set k (m,Value.slice ua m.n uc))[k]?=some (m,.slice ua m.n uc)):=hq2
   have hb2:W.heap.size+1+1+1≤W2.heap.size:=by omega
   have hbk2:bk<W2.heap.size:=by omega
   have hld2:W.heap.size+1+1<W2.heap.size:=by omega
   have hlc2:W.heap.size<W2.heap.size:=by omega
   obtain ⟨iI,hiI,hzI,hsI,hbI⟩:=info_parts Tryz.hinfo81
   have HCR:Hid (∀ w:World,Bw W2 w→Rdw w (.slice ua m.n uc) m.n 7 m.xs):=fun w hb=>hcr.keep (Zb HR2.out.below hb)
   have HC1:Hid (∀ u∈m.xs,u.oneCell'=true):=hc1
   have HKU:Hid (pm[k]?=some (m,.slice ua m.n uc)):=hku
   clear hq2 hR2 q0 q1 q2 q3 q4 q5 t0 t1 t2 t3 t4 t5 f0 f1 f2 f3 f4 f5 c5 d5 hqk hcr hc1 hku hR HM'
   go_wp2
   go_region_law
    (first
     | (refine Zbp rfl (.tmp 35) (.tmp 41) 85 rfl (W.heap.size+1+1+1) 91 iI _ 7 _ Tryz.underlying85 hiI hzI hsI hbI rfl (by decide) (.slice (some ⟨W2.heap.size,0,none⟩) 0 0) 0 [] (by simp [Act.eval]) ((Zb0 W2 _ rfl _ _ _ hb2).drew) (.slice ua m.n uc) m.n m.xs (by simp [Act.eval]) (HCR.out _ ((Below.refl _ W2).alloc (Nat.le_refl _) _).drew) HC1.out (by unfold maxLen;omega) (by omega) (by simp;omega) ?_;intro v' w5 hown hgrow;obtain ⟨ac,cc,rfl⟩:=ownv hown;simp only [Nat.zero_add,List.nil_append] at hown ⊢;have B5:Hid (Bw W2 w5):=(Below.grown (w:=_) ((Below.refl _ W2).alloc (Nat.le_refl _) _).drew hgrow (by simp) (fun k hk=>by simp [Value.ownBlock] at hk;omega));have O5:Hid (w5.ownsRow (W.heap.size+1+1+1) 91 7 (.slice ac m.n cc) m.n m.xs):=hown;have y5:w5.cell? ⟨W.heap.size+1+1,5,none⟩=some (.slice (some ⟨g,0,none⟩) M M):=(B5.out.cell (p:=⟨W.heap.size+1+1,5,none⟩) hld2).trans d5';have x5:w5.cell? ⟨g,k * 6+5,none⟩=some (.slice ua m.n uc):=(B5.out.cell (p:=⟨g,k * 6+5,none⟩) hglt2).trans ((HR2.out.ms.cellAt (k * 6+5) (by omega)).trans (Zy _ k _ HQ2.out 5 (by omega)));have z5:w5.frozen? ⟨g,k * 6+5,none⟩=false:=(Zd HR2.out.ms B5.out).frozenAt (k * 6+5);clear hown hgrow))
   all_goals
    go_wp2
    go_roundw
    case rel=>exact ⟨k+1,_,by go_num,by omega,HR2.out.next HQ2.out HKU.out B5.out O5.out⟩
    case measure=>simp [intOf];omega
  ·have h1:=hR.out.br
   have h2:=hR.out.bd
   have d0:=cell_of_row wr (W.heap.size+1) 0 _ _ _ h1
   have e0:=frozen_of_row wr (W.heap.size+1) 0 _ _ h1
   have g0:=cell_of_row wr (W.heap.size+1+1) 0 _ _ _ h2
   have d1:=cell_of_row wr (W.heap.size+1) 1 _ _ _ h1
   have e1:=frozen_of_row wr (W.heap.size+1) 1 _ _ h1
   have g1:=cell_of_row wr (W.heap.size+1+1) 1 _ _ _ h2
   have d2:=cell_of_row wr (W.heap.size+1) 2 _ _ _ h1
   have e2:=frozen_of_row wr (W.heap.size+1) 2 _ _ h1
   have g2:=cell_of_row wr (W.heap.size+1+1) 2 _ _ _ h2
   have d3:=cell_of_row wr (W.heap.size+1) 3 _ _ _ h1
   have e3:=frozen_of_row wr (W.heap.size+1) 3 _ _ h1
   have g3:=cell_of_row wr (W.heap.size+1+1) 3 _ _ _ h2
   have d4:=cell_of_row wr (W.heap.size+1) 4 _ _ _ h1
   have e4:=frozen_of_row wr (W.heap.size+1) 4 _ _ h1
   have g4:=cell_of_row wr (W.heap.size+1+1) 4 _ _ _ h2
   have d5:=cell_of_row wr (W.heap.size+1) 5 _ _ _ h1
   have e5:=frozen_of_row wr (W.heap.size+1) 5 _ _ h1
   have g5:=cell_of_row wr (W.heap.size+1+1) 5 _ _ _ h2
   simp only [List.getElem?_toArray,List.getElem?_cons_zero,List.getElem?_cons_succ] at d0 d1 d2 d3 d4 d5 g0 g1 g2 g3 g4 g5
   have hkk:¬ (k:Int)<(M:Int):=by omega
   have hne:¬ W.heap.size+1+1=W.heap.size+1:=by omega
   have hkM:k=M:=by omega
   clear h1 h2
   go_wp2
   have hR6:=hR.out
   refine bodyPost_ret (v:=.agg #[.string nm,.string su,.slice ai ni capi,.int .i64 fl,.int .i64 ld,.slice (some ⟨g,0,none⟩) M M]) (by simp [results,Tryz.results99,go_sem, *]) rfl ⟨_,_,rfl,qm,⟨?_,?_,?_⟩,?_,?_⟩
   ·refine Go.Joins.ownsRow_le (base:=W.heap.size+1+1+1) ?_ (by omega)
    repeat (refine ownsRow_setCell_below ?_ (by simp) _)
    exact hR6.ifs
   ·refine Go.Joins.ownsRow_le (base:=W.heap.size+1+1+1) ?_ (by omega)
    repeat (refine ownsRow_setCell_below ?_ (by simp) _)
    rw [hR6.len]
    exact hR6.ms
   ·intro p hp
    obtain ⟨j,hj⟩:=List.getElem?_of_mem hp
    have hjl:=(List.getElem?_eq_some_iff.1 hj).1
    rw [hR6.len] at hjl
    refine Go.Joins.ownsRow_le (base:=W.heap.size+1+1+1) ?_ (by omega)
    repeat (refine ownsRow_setCell_below ?_ (by simp) _)
    exact hR6.old j p hj (by omega)
   ·refine List.ext_getElem? fun j=>?_
    rw [List.getElem?_map,List.getElem?_map]
    by_cases hj:j<M
    ·exact hR6.eq j (by omega)
    ·rw [List.getElem?_eq_none (by rw [hR6.len];omega),List.getElem?_eq_none (by rw [HML.out];omega)]
   ·repeat (refine Below.setCell ?_ (by simp) _)
    exact hR6.below
end Go.Proofs.YtmafkabjjibcbaaGreat
