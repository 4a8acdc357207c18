import Derived.Test.YtjlfnelihbdhjaaGreatVtR
import Derived.Test.YtjlfnelihbdhjaaGreatGrA
import Derived.Test.YtjlfnelihbdhjaaGreatHrQ
set_option maxRecDepth 100000
namespace Go.Proofs.YtjlfnelihbdhjaaGreat
open Go.RowKit Go.Maps
set_option maxHeartbeats 16000000 in
theorem vown_1 (ps:List Plc) (W:World) (v:Value) (r m1 m2:Int) (e1:Int) (he:e1=3∨e1=6) (HB:Hid (∀ w:World,Below W.heap.size W w→Calls Tryz.prog 45 #[v] w fun e w'=>(∃ b,e=.returned (.pointer (some ⟨b,0,none⟩))∧WAt b ps w')∧Below w.heap.size w w')) (HS:Hid (∀ b w,WAt b ps w→Calls Tryz.prog 51 #[.pointer (some ⟨b,0,none⟩),.agg #[.int .i64 m1,.int .i64 m2]] w fun e w'=>(e=.returned (.tuple #[.int .i64 0,.int .i64 e1]))∧Below w.heap.size w w')):Calls Tryz.prog 13 #[v,.int .i64 r,.agg #[.int .i64 m1,.int .i64 m2]] W fun e w'=>e=.returned (.bool true)∧Below W.heap.size W w':=by
  have HA:Hid (∀ w:World,Calls Tryz.prog 44 #[] w fun e w'=>e=.returned (.bool true)∧Below w.heap.size w w'):=awake13_c
  have BB:Hid (Below W.heap.size W W):=Below.refl _ _
  rcases he with rfl|rfl
  all_goals
    go_enter Tryz.func13,Tryz.ntmps13
    go_wp2_with (first
      | (go_at_call 44;refine (HA.out _).mono ?_;rintro e w1 ⟨rfl,hb⟩;have mmd:=kp2 (n:=W.heap.size) hb;(try clear mmB mm0 mm1 mmf mmL mmN);obtain ⟨mmB,mm0,mm1,mmf,mmL,mmN⟩:=mmd;have BB2:Below W.heap.size W w1:=bstep (by repeat (first|refine Below.setCell ?_ (by simp;try omega) _|refine Below.alloc ?_ (by have:=BB.out.size;simp;try omega) _|refine Below.drew ?_|exact BB.out)) hb;clear BB;have BB:Hid (Below W.heap.size W w1):=BB2;clear BB2;clear hb HA)
      | (go_at_call 45;refine (HB.out _ BB.out).mono ?_;rintro e w2 ⟨⟨b,rfl,hw⟩,hb⟩;have HH:Hid (WAt b ps w2):=hw;have mmd:=kp2 (n:=W.heap.size) hb;(try clear mmB mm0 mm1 mmf mmL mmN);obtain ⟨mmB,mm0,mm1,mmf,mmL,mmN⟩:=mmd;have BB2:Below W.heap.size W w2:=bstep (by repeat (first|refine Below.setCell ?_ (by simp;try omega) _|refine Below.alloc ?_ (by have:=BB.out.size;simp;try omega) _|refine Below.drew ?_|exact BB.out)) hb;clear BB;have BB:Hid (Below W.heap.size W w2):=BB2;clear BB2;clear hb HB hw)
      | (go_at_call 51;refine (HS.out _ _ HH.out).mono ?_;rintro e w3 ⟨rfl,hb⟩;have mmd:=kp2 (n:=W.heap.size) hb;(try clear mmB mm0 mm1 mmf mmL mmN);obtain ⟨mmB,mm0,mm1,mmf,mmL,mmN⟩:=mmd;have BB2:Below W.heap.size W w3:=bstep (by repeat (first|refine Below.setCell ?_ (by simp;try omega) _|refine Below.alloc ?_ (by have:=BB.out.size;simp;try omega) _|refine Below.drew ?_|exact BB.out)) hb;clear BB;have BB:Hid (Below W.heap.size W w3):=BB2;clear BB2;have HH2:=HH.out.below hb;clear HH;have HH:Hid (WAt b ps w3):=HH2;clear HH2;clear hb HS))
  all_goals go_ret
  all_goals exact ⟨retB (by simp [*]),(by repeat (first|refine Below.setCell ?_ (by simp;try omega) _|refine Below.alloc ?_ (by have:=BB.out.size;simp;try omega) _|refine Below.drew ?_|exact BB.out))⟩
set_option maxHeartbeats 16000000 in
theorem vown_2 (ps:List Plc) (W:World) (v:Value) (r m1 m2:Int) (p:Nat) (R1 R2:Int) (T0:List Sl) (hx:T0[p]?=some ((R1,R2),(m1,m2))) (T1:List Sl) (g:Int) (ex:Bool) (hc:¬ g=0∨(g=0∧ex=false)) (HB:Hid (∀ w:World,Below W.heap.size W w→Calls Tryz.prog 45 #[v] w fun e w'=>(∃ b,e=.returned (.pointer (some ⟨b,0,none⟩))∧WAt b ps w')∧Below w.heap.size w w')) (HS:Hid (∀ b w,WAt b ps w→Calls Tryz.prog 51 #[.pointer (some ⟨b,0,none⟩),.agg #[.int .i64 m1,.int .i64 m2]] w fun e w'=>(e=.returned (.tuple #[.int .i64 (p:Int),.int .i64 0]))∧Below w.heap.size w w')) (HD:Hid (∀ b w,WAt b ps w→Calls Tryz.prog 46 #[.pointer (some ⟨b,0,none⟩),.int .i64 m1] w fun e w'=>(∃ v,e=.returned (.tuple #[v,.int .i64 0])∧w'.ownsRow w.heap.size 86 4 v T0.length (flat4 T0))∧Below w.heap.size w w')) (HE:Hid (∀ b w,WAt b ps w→Calls Tryz.prog 46 #[.pointer (some ⟨b,0,none⟩),.int .i64 r] w fun e w'=>(∃ v,e=.returned (.tuple #[v,.int .i64 g])∧w'.ownsRow w.heap.size 86 4 v T1.length (flat4 T1))∧Below w.heap.size w w')) (HX:Hid (∀ b w,WAt b ps w→Calls Tryz.prog 57 #[.pointer (some ⟨b,0,none⟩),.int .i64 r,.int .i64 m1] w fun e w'=>(e=.returned (.bool ex))∧Below w.heap.size w w')):Calls Tryz.prog 13 #[v,.int .i64 r,.agg #[.int .i64 m1,.int .i64 m2]] W fun e w'=>e=.returned (.bool true)∧Below W.heap.size W w':=by
  have HA:Hid (∀ w:World,Calls Tryz.prog 44 #[] w fun e w'=>e=.returned (.bool true)∧Below w.heap.size w w'):=awake13_c
  have BB:Hid (Below W.heap.size W W):=Below.refl _ _
  have SI:Hid (∀ (a1 a2:Int) (w:World),Calls Tryz.prog 24 #[.agg #[.int .i64 a1,.int .i64 a2],.agg #[.int .i64 a1,.int .i64 a2]] w fun e w'=>e=.returned (.bool true)∧Below w.heap.size w w'):=fun a1 a2 w=>(sameID_c (a1,a2) (a1,a2) w).mono fun e w' zz=>⟨by rw [zz.1];simp,zz.2⟩
  have hpT:=(List.getElem?_eq_some_iff.1 hx).1
  have hT0:0<T0.length:=by omega
  have hpI:(p:Int)<(T0.length:Int):=by omega
  have hp0:¬ (p:Int)<0:=by omega
  have hp0d:decide ((p:Int)<0)=false:=by simp
  have hpN:¬ (T0.length:Int)≤(p:Int):=by omega
  have hpNd:decide ((T0.length:Int)≤(p:Int))=false:=by simp;omega
  have hpM:¬ T0.length≤p:=by omega
  have hpMd:decide (T0.length≤p)=false:=by simp;omega
  go_enter Tryz.func13,Tryz.ntmps13
  go_upto_region 8 with (first
    | (go_at_call 44;refine (HA.out _).mono ?_;rintro e w1 ⟨rfl,hb⟩;have mmd:=kp2 (n:=W.heap.size) hb;(try clear mmB mm0 mm1 mmf mmL mmN);obtain ⟨mmB,mm0,mm1,mmf,mmL,mmN⟩:=mmd;have BB2:Below W.heap.size W w1:=bstep (by repeat (first|refine Below.setCell ?_ (by simp;try omega) _|refine Below.alloc ?_ (by have:=BB.out.size;simp;try omega) _|refine Below.drew ?_|exact BB.out)) hb;clear BB;have BB:Hid (Below W.heap.size W w1):=BB2;clear BB2;clear hb HA)
    | (go_at_call 45;refine (HB.out _ BB.out).mono ?_;rintro e w2 ⟨⟨b,rfl,hw⟩,hb⟩;have HH:Hid (WAt b ps w2):=hw;have mmd:=kp2 (n:=W.heap.size) hb;(try clear mmB mm0 mm1 mmf mmL mmN);obtain ⟨mmB,mm0,mm1,mmf,mmL,mmN⟩:=mmd;have BB2:Below W.heap.size W w2:=bstep (by repeat (first|refine Below.setCell ?_ (by simp;try omega) _|refine Below.alloc ?_ (by have:=BB.out.size;simp;try omega) _|refine Below.drew ?_|exact BB.out)) hb;clear BB;have BB:Hid (Below W.heap.size W w2):=BB2;clear BB2;clear hb HB hw)
    | (go_at_call 51;refine (HS.out _ _ HH.out).mono ?_;rintro e w3 ⟨rfl,hb⟩;have mmd:=kp2 (n:=W.heap.size) hb;(try clear mmB mm0 mm1 mmf mmL mmN);obtain ⟨mmB,mm0,mm1,mmf,mmL,mmN⟩:=mmd;have BB2:Below W.heap.size W w3:=bstep (by repeat (first|refine Below.setCell ?_ (by simp;try omega) _|refine Below.alloc ?_ (by have:=BB.out.size;simp;try omega) _|refine Below.drew ?_|exact BB.out)) hb;clear BB;have BB:Hid (Below W.heap.size W w3):=BB2;clear BB2;have HH2:=HH.out.below hb;clear HH;have HH:Hid (WAt b ps w3):=HH2;clear HH2;clear hb HS)
    | (go_at_call 46;refine (HD.out _ _ HH.out).mono ?_;rintro e w4 ⟨⟨vo,rfl,ho⟩,hb⟩;obtain ⟨g0,cp0,rfl,_,oL,hcs⟩:=own_atS ho hT0;have o0:=hcs _ _ ((flat4_at T0 p _ 0 hx (by decide)).trans rfl);have o1:=hcs _ _ ((flat4_at T0 p _ 1 hx (by decide)).trans rfl);have o2:=hcs _ _ ((flat4_at T0 p _ 2 hx (by decide)).trans rfl);have o3:=hcs _ _ ((flat4_at T0 p _ 3 hx (by decide)).trans rfl);clear hcs ho;have mmd:=kp2 (n:=W.heap.size) hb;(try clear mmB mm0 mm1 mmf mmL mmN);obtain ⟨mmB,mm0,mm1,mmf,mmL,mmN⟩:=mmd;have BB2:Below W.heap.size W w4:=bstep (by repeat (first|refine Below.setCell ?_ (by simp;try omega) _|refine Below.alloc ?_ (by have:=BB.out.size;simp;try omega) _|refine Below.drew ?_|exact BB.out)) hb;clear BB;have BB:Hid (Below W.heap.size W w4):=BB2;clear BB2;have HH2:=HH.out.below hb;clear HH;have HH:Hid (WAt b ps w4):=HH2;clear HH2;clear hb HD))
  obtain ⟨σ,V,hne,V1,V2⟩:=class_of' (fun w'=>Below w4.heap.size w4 w') ⟨_,Below.refl _ _⟩
  have cV0:∀ s,(V s).cell? ⟨W.heap.size,0,none⟩=some (.int .i64 m1):=fun s=>((V1.out s).cell (p:=⟨W.heap.size,0,none⟩) mmL).trans mm0
  have cV1:∀ s,(V s).cell? ⟨W.heap.size,1,none⟩=some (.int .i64 m2):=fun s=>((V1.out s).cell (p:=⟨W.heap.size,1,none⟩) mmL).trans mm1
  have cV2:∀ s,(V s).cell? ⟨g0,p * 4+2,none⟩=some (.int .i64 m1):=fun s=>((V1.out s).cell (p:=⟨g0,p * 4+2,none⟩) oL).trans o2
  have cV3:∀ s,(V s).cell? ⟨g0,p * 4+3,none⟩=some (.int .i64 m2):=fun s=>((V1.out s).cell (p:=⟨g0,p * 4+3,none⟩) oL).trans o3
  have HQ:Hid (∀ s,Calls Tryz.prog 24 #[.agg #[.int .i64 m1,.int .i64 m2],.agg #[.int .i64 m1,.int .i64 m2]] (V s) fun e w''=>e=.returned (.bool true)∧∃ s',w''=V s'):=fun s=>(SI.out m1 m2 _).mono fun e w'' zz=>⟨zz.1,V2.out _ (bstep (V1.out s) zz.2)⟩
  refine wp_region_class (C:=fun w'=>∃ s,w'=V s) (by kernel_rfl) (by kernel_rfl) (V2.out _ (Below.refl _ _).drew) ?_
  repeat (go_big_quiet_step (first|(go_at_call 24;exact HQ.out _)))
  refine wpQuiet_nil ?_
  intro w9 hw9
  obtain ⟨s9,hw9⟩:=hw9
  have hb:Below w4.heap.size w4 w9:=by rw [hw9];exact V1.out s9
  clear hw9 cV0 cV1 cV2 cV3 HQ V1 V2 s9 hne V σ
  have o0x:=(hb.cell (p:=⟨g0,p * 4,none⟩) oL).trans o0
  clear o0
  have o0:=o0x
  clear o0x
  have o1x:=(hb.cell (p:=⟨g0,p * 4+1,none⟩) oL).trans o1
  clear o1
  have o1:=o1x
  clear o1x
  have oLx:g0<w9.heap.size:=Nat.lt_of_lt_of_le oL hb.size
  clear oL
  have oL:=oLx
  clear oLx
  have mmd:=kp2 (n:=W.heap.size) hb
  (try clear mmB mm0 mm1 mmf mmL mmN)
  obtain ⟨mmB,mm0,mm1,mmf,mmL,mmN⟩:=mmd
  have BB2:Below W.heap.size W w9:=bstep BB.out hb
  clear BB
  have BB:Hid (Below W.heap.size W w9):=BB2
  clear BB2
  have HH2:=HH.out.below hb
  clear HH
  have HH:Hid (WAt b ps w9):=HH2
  clear HH2
  clear hb o2 o3
  clear SI
  rcases hc with hc|⟨rfl,rfl⟩
  · have hcb:(g == 0)=false:=by simp [hc]
    go_wp2_with (first
      | (go_at_call 46;refine (HE.out _ _ HH.out).mono ?_;rintro e w5 ⟨⟨vo2,rfl,ho2⟩,hb⟩;have o0x:=(hb.cell (p:=⟨g0,p * 4,none⟩) oL).trans o0;clear o0;have o0:=o0x;clear o0x;have o1x:=(hb.cell (p:=⟨g0,p * 4+1,none⟩) oL).trans o1;clear o1;have o1:=o1x;clear o1x;have oLx:g0<w5.heap.size:=Nat.lt_of_lt_of_le oL hb.size;clear oL;have oL:=oLx;clear oLx;have mmd:=kp2 (n:=W.heap.size) hb;(try clear mmB mm0 mm1 mmf mmL mmN);obtain ⟨mmB,mm0,mm1,mmf,mmL,mmN⟩:=mmd;have BB2:Below W.heap.size W w5:=bstep (by repeat (first|refine Below.setCell ?_ (by simp;try omega) _|refine Below.alloc ?_ (by have:=BB.out.size;simp;try omega) _|refine Below.drew ?_|exact BB.out)) hb;clear BB;have BB:Hid (Below W.heap.size W w5):=BB2;clear BB2;have HH2:=HH.out.below hb;clear HH;have HH:Hid (WAt b ps w5):=HH2;clear HH2;clear hb HE ho2))
    all_goals go_ret
    all_goals exact ⟨retB (by simp [*]),(by repeat (first|refine Below.setCell ?_ (by simp;try omega) _|refine Below.alloc ?_ (by have:=BB.out.size;simp;try omega) _|refine Below.drew ?_|exact BB.out))⟩
  · go_wp2_with (first
      | (go_at_call 46;refine (HE.out _ _ HH.out).mono ?_;rintro e w5 ⟨⟨vo2,rfl,ho2⟩,hb⟩;have o0x:=(hb.cell (p:=⟨g0,p * 4,none⟩) oL).trans o0;clear o0;have o0:=o0x;clear o0x;have o1x:=(hb.cell (p:=⟨g0,p * 4+1,none⟩) oL).trans o1;clear o1;have o1:=o1x;clear o1x;have oLx:g0<w5.heap.size:=Nat.lt_of_lt_of_le oL hb.size;clear oL;have oL:=oLx;clear oLx;have mmd:=kp2 (n:=W.heap.size) hb;(try clear mmB mm0 mm1 mmf mmL mmN);obtain ⟨mmB,mm0,mm1,mmf,mmL,mmN⟩:=mmd;have BB2:Below W.heap.size W w5:=bstep (by repeat (first|refine Below.setCell ?_ (by simp;try omega) _|refine Below.alloc ?_ (by have:=BB.out.size;simp;try omega) _|refine Below.drew ?_|exact BB.out)) hb;clear BB;have BB:Hid (Below W.heap.size W w5):=BB2;clear BB2;have HH2:=HH.out.below hb;clear HH;have HH:Hid (WAt b ps w5):=HH2;clear HH2;clear hb HE ho2)
      | (go_at_call 57;refine (HX.out _ _ HH.out).mono ?_;rintro e w6 ⟨rfl,hb⟩;have o0x:=(hb.cell (p:=⟨g0,p * 4,none⟩) oL).trans o0;clear o0;have o0:=o0x;clear o0x;have o1x:=(hb.cell (p:=⟨g0,p * 4+1,none⟩) oL).trans o1;clear o1;have o1:=o1x;clear o1x;have oLx:g0<w6.heap.size:=Nat.lt_of_lt_of_le oL hb.size;clear oL;have oL:=oLx;clear oLx;have mmd:=kp2 (n:=W.heap.size) hb;(try clear mmB mm0 mm1 mmf mmL mmN);obtain ⟨mmB,mm0,mm1,mmf,mmL,mmN⟩:=mmd;have BB2:Below W.heap.size W w6:=bstep (by repeat (first|refine Below.setCell ?_ (by simp;try omega) _|refine Below.alloc ?_ (by have:=BB.out.size;simp;try omega) _|refine Below.drew ?_|exact BB.out)) hb;clear BB;have BB:Hid (Below W.heap.size W w6):=BB2;clear BB2;have HH2:=HH.out.below hb;clear HH;have HH:Hid (WAt b ps w6):=HH2;clear HH2;clear hb HX))
    all_goals go_ret
    all_goals exact ⟨retB (by simp [*]),(by repeat (first|refine Below.setCell ?_ (by simp;try omega) _|refine Below.alloc ?_ (by have:=BB.out.size;simp;try omega) _|refine Below.drew ?_|exact BB.out))⟩
set_option maxHeartbeats 16000000 in
theorem vown_3 (ps:List Plc) (W:World) (v:Value) (r m1 m2:Int) (p:Nat) (R1 R2:Int) (T0:List Sl) (hx:T0[p]?=some ((R1,R2),(m1,m2))) (T1:List Sl) (n1 n2:Int) (hy:T1[p]?=some ((R1,R2),(n1,n2))) (p2:Nat) (hp2:p2<T1.length) (HB:Hid (∀ w:World,Below W.heap.size W w→Calls Tryz.prog 45 #[v] w fun e w'=>(∃ b,e=.returned (.pointer (some ⟨b,0,none⟩))∧WAt b ps w')∧Below w.heap.size w w')) (HS:Hid (∀ b w,WAt b ps w→Calls Tryz.prog 51 #[.pointer (some ⟨b,0,none⟩),.agg #[.int .i64 m1,.int .i64 m2]] w fun e w'=>(e=.returned (.tuple #[.int .i64 (p:Int),.int .i64 0]))∧Below w.heap.size w w')) (HD:Hid (∀ b w,WAt b ps w→Calls Tryz.prog 46 #[.pointer (some ⟨b,0,none⟩),.int .i64 m1] w fun e w'=>(∃ v,e=.returned (.tuple #[v,.int .i64 0])∧w'.ownsRow w.heap.size 86 4 v T0.length (flat4 T0))∧Below w.heap.size w w')) (HE:Hid (∀ b w,WAt b ps w→Calls Tryz.prog 46 #[.pointer (some ⟨b,0,none⟩),.int .i64 r] w fun e w'=>(∃ v,e=.returned (.tuple #[v,.int .i64 0])∧w'.ownsRow w.heap.size 86 4 v T1.length (flat4 T1))∧Below w.heap.size w w')) (HX:Hid (∀ b w,WAt b ps w→Calls Tryz.prog 57 #[.pointer (some ⟨b,0,none⟩),.int .i64 r,.int .i64 m1] w fun e w'=>(e=.returned (.bool true))∧Below w.heap.size w w')) (HO:Hid (∀ b w,WAt b ps w→Calls Tryz.prog 20 #[.pointer (some ⟨b,0,none⟩),.agg #[.int .i64 n1,.int .i64 n2],.agg #[.int .i64 m1,.int .i64 m2]] w fun e w'=>(e=.returned (.tuple #[.bool true,.int .i64 0]))∧Below w.heap.size w w')) (HS2:Hid (∀ b w,WAt b ps w→Calls Tryz.prog 51 #[.pointer (some ⟨b,0,none⟩),.agg #[.int .i64 n1,.int .i64 n2]] w fun e w'=>(e=.returned (.tuple #[.int .i64 (p2:Int),.int .i64 0]))∧Below w.heap.size w w')) (HX2:Hid (∀ b w,WAt b ps w→Calls Tryz.prog 57 #[.pointer (some ⟨b,0,none⟩),.int .i64 r,.int .i64 n1] w fun e w'=>(e=.returned (.bool true))∧Below w.heap.size w w')):Calls Tryz.prog 13 #[v,.int .i64 r,.agg #[.int .i64 m1,.int .i64 m2]] W fun e w'=>e=.returned (.bool true)∧Below W.heap.size W w':=by
  have HA:Hid (∀ w:World,Calls Tryz.prog 44 #[] w fun e w'=>e=.returned (.bool true)∧Below w.heap.size w w'):=awake13_c
  have BB:Hid (Below W.heap.size W W):=Below.refl _ _
  have SI:Hid (∀ (a1 a2:Int) (w:World),Calls Tryz.prog 24 #[.agg #[.int .i64 a1,.int .i64 a2],.agg #[.int .i64 a1,.int .i64 a2]] w fun e w'=>e=.returned (.bool true)∧Below w.heap.size w w'):=fun a1 a2 w=>(sameID_c (a1,a2) (a1,a2) w).mono fun e w' zz=>⟨by rw [zz.1];simp,zz.2⟩
  have hpT:=(List.getElem?_eq_some_iff.1 hx).1
  have hT0:0<T0.length:=by omega
  have hpI:(p:Int)<(T0.length:Int):=by omega
  have hp0:¬ (p:Int)<0:=by omega
  have hp0d:decide ((p:Int)<0)=false:=by simp
  have hpN:¬ (T0.length:Int)≤(p:Int):=by omega
  have hpNd:decide ((T0.length:Int)≤(p:Int))=false:=by simp;omega
  have hpM:¬ T0.length≤p:=by omega
  have hpMd:decide (T0.length≤p)=false:=by simp;omega
  have hpT1:=(List.getElem?_eq_some_iff.1 hy).1
  have hT1:0<T1.length:=by omega
  have hpI1:(p:Int)<(T1.length:Int):=by omega
  have hpN1:¬ (T1.length:Int)≤(p:Int):=by omega
  have hpNd1:decide ((T1.length:Int)≤(p:Int))=false:=by simp;omega
  have hpM1:¬ T1.length≤p:=by omega
  have hpMd1:decide (T1.length≤p)=false:=by simp;omega
  have hp2I:(p2:Int)<(T1.length:Int):=by omega
  go_enter Tryz.func13,Tryz.ntmps13
  go_upto_region 8 with (first
    | (go_at_call 44;refine (HA.out _).mono ?_;rintro e w1 ⟨rfl,hb⟩;have mmd:=kp2 (n:=W.heap.size) hb;(try clear mmB mm0 mm1 mmf mmL mmN);obtain ⟨mmB,mm0,mm1,mmf,mmL,mmN⟩:=mmd;have BB2:Below W.heap.size W w1:=bstep (by repeat (first|refine Below.setCell ?_ (by simp;try omega) _|refine Below.alloc ?_ (by have:=BB.out.size;simp;try omega) _|refine Below.drew ?_|exact BB.out)) hb;clear BB;have BB:Hid (Below W.heap.size W w1):=BB2;clear BB2;clear hb HA)
    | (go_at_call 45;refine (HB.out _ BB.out).mono ?_;rintro e w2 ⟨⟨b,rfl,hw⟩,hb⟩;have HH:Hid (WAt b ps w2):=hw;have mmd:=kp2 (n:=W.heap.size) hb;(try clear mmB mm0 mm1 mmf mmL mmN);obtain ⟨mmB,mm0,mm1,mmf,mmL,mmN⟩:=mmd;have BB2:Below W.heap.size W w2:=bstep (by repeat (first|refine Below.setCell ?_ (by simp;try omega) _|refine Below.alloc ?_ (by have:=BB.out.size;simp;try omega) _|refine Below.drew ?_|exact BB.out)) hb;clear BB;have BB:Hid (Below W.heap.size W w2):=BB2;clear BB2;clear hb HB hw)
    | (go_at_call 51;refine (HS.out _ _ HH.out).mono ?_;rintro e w3 ⟨rfl,hb⟩;have mmd:=kp2 (n:=W.heap.size) hb;(try clear mmB mm0 mm1 mmf mmL mmN);obtain ⟨mmB,mm0,mm1,mmf,mmL,mmN⟩:=mmd;have BB2:Below W.heap.size W w3:=bstep (by repeat (first|refine Below.setCell ?_ (by simp;try omega) _|refine Below.alloc ?_ (by have:=BB.out.size;simp;try omega) _|refine Below.drew ?_|exact BB.out)) hb;clear BB;have BB:Hid (Below W.heap.size W w3):=BB2;clear BB2;have HH2:=HH.out.below hb;clear HH;have HH:Hid (WAt b ps w3):=HH2;clear HH2;clear hb HS)
    | (go_at_call 46;refine (HD.out _ _ HH.out).mono ?_;rintro e w4 ⟨⟨vo,rfl,ho⟩,hb⟩;obtain ⟨g0,cp0,rfl,_,oL,hcs⟩:=own_atS ho hT0;have o0:=hcs _ _ ((flat4_at T0 p _ 0 hx (by decide)).trans rfl);have o1:=hcs _ _ ((flat4_at T0 p _ 1 hx (by decide)).trans rfl);have o2:=hcs _ _ ((flat4_at T0 p _ 2 hx (by decide)).trans rfl);have o3:=hcs _ _ ((flat4_at T0 p _ 3 hx (by decide)).trans rfl);clear hcs ho;have mmd:=kp2 (n:=W.heap.size) hb;(try clear mmB mm0 mm1 mmf mmL mmN);obtain ⟨mmB,mm0,mm1,mmf,mmL,mmN⟩:=mmd;have BB2:Below W.heap.size W w4:=bstep (by repeat (first|refine Below.setCell ?_ (by simp;try omega) _|refine Below.alloc ?_ (by have:=BB.out.size;simp;try omega) _|refine Below.drew ?_|exact BB.out)) hb;clear BB;have BB:Hid (Below W.heap.size W w4):=BB2;clear BB2;have HH2:=HH.out.below hb;clear HH;have HH:Hid (WAt b ps w4):=HH2;clear HH2;clear hb HD))
  obtain ⟨σ,V,hne,V1,V2⟩:=class_of' (fun w'=>Below w4.heap.size w4 w') ⟨_,Below.refl _ _⟩
  have cV0:∀ s,(V s).cell? ⟨W.heap.size,0,none⟩=some (.int .i64 m1):=fun s=>((V1.out s).cell (p:=⟨W.heap.size,0,none⟩) mmL).trans mm0
  have cV1:∀ s,(V s).cell? ⟨W.heap.size,1,none⟩=some (.int .i64 m2):=fun s=>((V1.out s).cell (p:=⟨W.heap.size,1,none⟩) mmL).trans mm1
  have cV2:∀ s,(V s).cell? ⟨g0,p * 4+2,none⟩=some (.int .i64 m1):=fun s=>((V1.out s).cell (p:=⟨g0,p * 4+2,none⟩) oL).trans o2
  have cV3:∀ s,(V s).cell? ⟨g0,p * 4+3,none⟩=some (.int .i64 m2):=fun s=>((V1.out s).cell (p:=⟨g0,p * 4+3,none⟩) oL).trans o3
  have HQ:Hid (∀ s,Calls Tryz.prog 24 #[.agg #[.int .i64 m1,.int .i64 m2],.agg #[.int .i64 m1,.int .i64 m2]] (V s) fun e w''=>e=.returned (.bool true)∧∃ s',w''=V s'):=fun s=>(SI.out m1 m2 _).mono fun e w'' zz=>⟨zz.1,V2.out _ (bstep (V1.out s) zz.2)⟩
  refine wp_region_class (C:=fun w'=>∃ s,w'=V s) (by kernel_rfl) (by kernel_rfl) (V2.out _ (Below.refl _ _).drew) ?_
  repeat (go_big_quiet_step (first|(go_at_call 24;exact HQ.out _)))
  refine wpQuiet_nil ?_
  intro w9 hw9
  obtain ⟨s9,hw9⟩:=hw9
  have hb:Below w4.heap.size w4 w9:=by rw [hw9];exact V1.out s9
  clear hw9 cV0 cV1 cV2 cV3 HQ V1 V2 s9 hne V σ
  have o0x:=(hb.cell (p:=⟨g0,p * 4,none⟩) oL).trans o0
  clear o0
  have o0:=o0x
  clear o0x
  have o1x:=(hb.cell (p:=⟨g0,p * 4+1,none⟩) oL).trans o1
  clear o1
  have o1:=o1x
  clear o1x
  have oLx:g0<w9.heap.size:=Nat.lt_of_lt_of_le oL hb.size
  clear oL
  have oL:=oLx
  clear oLx
  have mmd:=kp2 (n:=W.heap.size) hb
  (try clear mmB mm0 mm1 mmf mmL mmN)
  obtain ⟨mmB,mm0,mm1,mmf,mmL,mmN⟩:=mmd
  have BB2:Below W.heap.size W w9:=bstep BB.out hb
  clear BB
  have BB:Hid (Below W.heap.size W w9):=BB2
  clear BB2
  have HH2:=HH.out.below hb
  clear HH
  have HH:Hid (WAt b ps w9):=HH2
  clear HH2
  clear hb o2 o3
  go_upto_region 13 with (first
    | (go_at_call 46;refine (HE.out _ _ HH.out).mono ?_;rintro e w5 ⟨⟨vo2,rfl,ho⟩,hb⟩;have o0x:=(hb.cell (p:=⟨g0,p * 4,none⟩) oL).trans o0;clear o0;have o0:=o0x;clear o0x;have o1x:=(hb.cell (p:=⟨g0,p * 4+1,none⟩) oL).trans o1;clear o1;have o1:=o1x;clear o1x;have oLx:g0<w5.heap.size:=Nat.lt_of_lt_of_le oL hb.size;clear oL;have oL:=oLx;clear oLx;obtain ⟨g1,cp1,rfl,_,tL,hcs⟩:=own_atS ho hT1;have t0:=hcs _ _ ((flat4_at T1 p _ 0 hy (by decide)).trans rfl);have t1:=hcs _ _ ((flat4_at T1 p _ 1 hy (by decide)).trans rfl);have t2:=hcs _ _ ((flat4_at T1 p _ 2 hy (by decide)).trans rfl);have t3:=hcs _ _ ((flat4_at T1 p _ 3 hy (by decide)).trans rfl);clear hcs ho;have mmd:=kp2 (n:=W.heap.size) hb;(try clear mmB mm0 mm1 mmf mmL mmN);obtain ⟨mmB,mm0,mm1,mmf,mmL,mmN⟩:=mmd;have BB2:Below W.heap.size W w5:=bstep (by repeat (first|refine Below.setCell ?_ (by simp;try omega) _|refine Below.alloc ?_ (by have:=BB.out.size;simp;try omega) _|refine Below.drew ?_|exact BB.out)) hb;clear BB;have BB:Hid (Below W.heap.size W w5):=BB2;clear BB2;have HH2:=HH.out.below hb;clear HH;have HH:Hid (WAt b ps w5):=HH2;clear HH2;clear hb HE)
    | (go_at_call 57;refine (HX.out _ _ HH.out).mono ?_;rintro e w6 ⟨rfl,hb⟩;have o0x:=(hb.cell (p:=⟨g0,p * 4,none⟩) oL).trans o0;clear o0;have o0:=o0x;clear o0x;have o1x:=(hb.cell (p:=⟨g0,p * 4+1,none⟩) oL).trans o1;clear o1;have o1:=o1x;clear o1x;have oLx:g0<w6.heap.size:=Nat.lt_of_lt_of_le oL hb.size;clear oL;have oL:=oLx;clear oLx;have t0x:=(hb.cell (p:=⟨g1,p * 4,none⟩) tL).trans t0;clear t0;have t0:=t0x;clear t0x;have t1x:=(hb.cell (p:=⟨g1,p * 4+1,none⟩) tL).trans t1;clear t1;have t1:=t1x;clear t1x;have t2x:=(hb.cell (p:=⟨g1,p * 4+2,none⟩) tL).trans t2;clear t2;have t2:=t2x;clear t2x;have t3x:=(hb.cell (p:=⟨g1,p * 4+3,none⟩) tL).trans t3;clear t3;have t3:=t3x;clear t3x;have tLx:g1<w6.heap.size:=Nat.lt_of_lt_of_le tL hb.size;clear tL;have tL:=tLx;clear tLx;have mmd:=kp2 (n:=W.heap.size) hb;(try clear mmB mm0 mm1 mmf mmL mmN);obtain ⟨mmB,mm0,mm1,mmf,mmL,mmN⟩:=mmd;have BB2:Below W.heap.size W w6:=bstep (by repeat (first|refine Below.setCell ?_ (by simp;try omega) _|refine Below.alloc ?_ (by have:=BB.out.size;simp;try omega) _|refine Below.drew ?_|exact BB.out)) hb;clear BB;have BB:Hid (Below W.heap.size W w6):=BB2;clear BB2;have HH2:=HH.out.below hb;clear HH;have HH:Hid (WAt b ps w6):=HH2;clear HH2;clear hb HX))
  obtain ⟨σ,V,hne,V1,V2⟩:=class_of' (fun w'=>Below w6.heap.size w6 w') ⟨_,Below.refl _ _⟩
  have cV0:∀ s,(V s).cell? ⟨g1,p * 4,none⟩=some (.int .i64 R1):=fun s=>((V1.out s).cell (p:=⟨g1,p * 4,none⟩) tL).trans t0
  have cV1:∀ s,(V s).cell? ⟨g1,p * 4+1,none⟩=some (.int .i64 R2):=fun s=>((V1.out s).cell (p:=⟨g1,p * 4+1,none⟩) tL).trans t1
  have cV2:∀ s,(V s).cell? ⟨g0,p * 4,none⟩=some (.int .i64 R1):=fun s=>((V1.out s).cell (p:=⟨g0,p * 4,none⟩) oL).trans o0
  have cV3:∀ s,(V s).cell? ⟨g0,p * 4+1,none⟩=some (.int .i64 R2):=fun s=>((V1.out s).cell (p:=⟨g0,p * 4+1,none⟩) oL).trans o1
  have HQ:Hid (∀ s,Calls Tryz.prog 24 #[.agg #[.int .i64 R1,.int .i64 R2],.agg #[.int .i64 R1,.int .i64 R2]] (V s) fun e w''=>e=.returned (.bool true)∧∃ s',w''=V s'):=fun s=>(SI.out R1 R2 _).mono fun e w'' zz=>⟨zz.1,V2.out _ (bstep (V1.out s) zz.2)⟩
  refine wp_region_class (C:=fun w'=>∃ s,w'=V s) (by kernel_rfl) (by kernel_rfl) (V2.out _ (Below.refl _ _).drew) ?_
  repeat (go_big_quiet_step (first|(go_at_call 24;exact HQ.out _)))
  refine wpQuiet_nil ?_
  intro w11 hw9
  obtain ⟨s9,hw9⟩:=hw9
  have hb:Below w6.heap.size w6 w11:=by rw [hw9];exact V1.out s9
  clear hw9 cV0 cV1 cV2 cV3 HQ V1 V2 s9 hne V σ
  have t2x:=(hb.cell (p:=⟨g1,p * 4+2,none⟩) tL).trans t2
  clear t2
  have t2:=t2x
  clear t2x
  have t3x:=(hb.cell (p:=⟨g1,p * 4+3,none⟩) tL).trans t3
  clear t3
  have t3:=t3x
  clear t3x
  have tLx:g1<w11.heap.size:=Nat.lt_of_lt_of_le tL hb.size
  clear tL
  have tL:=tLx
  clear tLx
  have mmd:=kp2 (n:=W.heap.size) hb
  (try clear mmB mm0 mm1 mmf mmL mmN)
  obtain ⟨mmB,mm0,mm1,mmf,mmL,mmN⟩:=mmd
  have BB2:Below W.heap.size W w11:=bstep BB.out hb
  clear BB
  have BB:Hid (Below W.heap.size W w11):=BB2
  clear BB2
  have HH2:=HH.out.below hb
  clear HH
  have HH:Hid (WAt b ps w11):=HH2
  clear HH2
  clear hb t0 t1 o0 o1 oL
  clear SI
  go_wp2_with (first
    | (go_at_call 20;refine (HO.out _ _ (HH.out.below (by repeat (first|refine Below.setCell ?_ (by simp;try omega) _|refine Below.alloc ?_ (by simp;try omega) _|exact Below.refl _ _)))).mono ?_;rintro e w7 ⟨rfl,hb⟩;have mmd:=kp2 (n:=W.heap.size) hb;(try clear mmB mm0 mm1 mmf mmL mmN);obtain ⟨mmB,mm0,mm1,mmf,mmL,mmN⟩:=mmd;have nnd:=kp2 (n:=w11.heap.size) hb;(try clear nnB nn0 nn1 nnf nnL nnN);obtain ⟨nnB,nn0,nn1,nnf,nnL,nnN⟩:=nnd;have BB2:Below W.heap.size W w7:=bstep (by repeat (first|refine Below.setCell ?_ (by simp;try omega) _|refine Below.alloc ?_ (by have:=BB.out.size;simp;try omega) _|refine Below.drew ?_|exact BB.out)) hb;clear BB;have BB:Hid (Below W.heap.size W w7):=BB2;clear BB2;have HH2:=(HH.out.below (by repeat (first|refine Below.setCell ?_ (by simp;try omega) _|refine Below.alloc ?_ (by simp;try omega) _|exact Below.refl _ _))).below hb;clear HH;have HH:Hid (WAt b ps w7):=HH2;clear HH2;clear hb HO)
    | (go_at_call 51;refine (HS2.out _ _ HH.out).mono ?_;rintro e w8 ⟨rfl,hb⟩;have mmd:=kp2 (n:=W.heap.size) hb;(try clear mmB mm0 mm1 mmf mmL mmN);obtain ⟨mmB,mm0,mm1,mmf,mmL,mmN⟩:=mmd;have nnd:=kp2 (n:=w11.heap.size) hb;(try clear nnB nn0 nn1 nnf nnL nnN);obtain ⟨nnB,nn0,nn1,nnf,nnL,nnN⟩:=nnd;have BB2:Below W.heap.size W w8:=bstep (by repeat (first|refine Below.setCell ?_ (by simp;try omega) _|refine Below.alloc ?_ (by have:=BB.out.size;simp;try omega) _|refine Below.drew ?_|exact BB.out)) hb;clear BB;have BB:Hid (Below W.heap.size W w8):=BB2;clear BB2;have HH2:=HH.out.below hb;clear HH;have HH:Hid (WAt b ps w8):=HH2;clear HH2;clear hb HS2)
    | (go_at_call 57;refine (HX2.out _ _ HH.out).mono ?_;rintro e w10 ⟨rfl,hb⟩;have mmd:=kp2 (n:=W.heap.size) hb;(try clear mmB mm0 mm1 mmf mmL mmN);obtain ⟨mmB,mm0,mm1,mmf,mmL,mmN⟩:=mmd;have nnd:=kp2 (n:=w11.heap.size) hb;(try clear nnB nn0 nn1 nnf nnL nnN);obtain ⟨nnB,nn0,nn1,nnf,nnL,nnN⟩:=nnd;have BB2:Below W.heap.size W w10:=bstep (by repeat (first|refine Below.setCell ?_ (by simp;try omega) _|refine Below.alloc ?_ (by have:=BB.out.size;simp;try omega) _|refine Below.drew ?_|exact BB.out)) hb;clear BB;have BB:Hid (Below W.heap.size W w10):=BB2;clear BB2;have HH2:=HH.out.below hb;clear HH;have HH:Hid (WAt b ps w10):=HH2;clear HH2;clear hb HX2))
  all_goals go_ret
  all_goals exact ⟨retB (by simp [*]),(by repeat (first|refine Below.setCell ?_ (by simp;try omega) _|refine Below.alloc ?_ (by have:=BB.out.size;simp;try omega) _|refine Below.drew ?_|exact BB.out))⟩
theorem VtableOwn_any (v:Value) (l:List Cls) (r m1 m2:Int) (W:World) (h:IsClss W v l):Calls Tryz.prog 13 #[v,.int .i64 r,.agg #[.int .i64 m1,.int .i64 m2]] W fun e w'=>e=.returned (.bool true)∧Below W.heap.size W w':=by
  have hWI:WI (wld l):=wld_wi l (clss_w h)
  have hU:UnqM (wld l):=unqM_wld l (clss_w h)
  have hS:SndM (wld l):=sndM_wld l (clss_w h)
  have HB:∀ w:World,Below W.heap.size W w→Calls Tryz.prog 45 #[v] w fun e w'=>(∃ b,e=.returned (.pointer (some ⟨b,0,none⟩))∧WAt b (wld l) w')∧Below w.heap.size w w':=fun w hb=>(built13_n v l w (clss_keep h hb)).mono fun e w' zz=>by
    obtain ⟨⟨b,e1,mb,vp,pv,hw⟩,hb2⟩:=zz
    exact ⟨⟨b,e1,hw.wat⟩,hb2⟩
  generalize wld l=ps at *
  have HS:∀ c i b w,WAt b ps w→Calls Tryz.prog 51 #[.pointer (some ⟨b,0,none⟩),.agg #[.int .i64 c,.int .i64 i]] w fun e w'=>e=.returned (.tuple #[.int .i64 (sloR ps c i).1,.int .i64 (sloR ps c i).2])∧Below w.heap.size w w':=fun c i b w hw=>slo_c hw hWI hU c i
  have HD:∀ x b w,WAt b ps w→Calls Tryz.prog 46 #[.pointer (some ⟨b,0,none⟩),.int .i64 x] w fun e w'=>(∃ v,e=.returned (.tuple #[v,.int .i64 (vckE ps x)])∧w'.ownsRow w.heap.size 86 4 v (bldT ps x).length (flat4 (bldT ps x)))∧Below w.heap.size w w':=fun x b w hw=>bld_c hw hWI hU x
  have HX:∀ x y b w,WAt b ps w→Calls Tryz.prog 57 #[.pointer (some ⟨b,0,none⟩),.int .i64 x,.int .i64 y] w fun e w'=>e=.returned (.bool (extI ps x y))∧Below w.heap.size w w':=fun x y b w hw=>extends_c hw hWI x y
  rcases slo_errs (ps:=ps) (c:=m1) (i:=m2) with hs|⟨hs1,hs2⟩
  · obtain ⟨kc,p,x,_,_,hp,hv,hx,hx2,hall⟩:=vown_facts hWI hU hS hs
    have HS1:=HS m1 m2
    have HD1:=HD m1
    rw [hp,hs] at HS1
    rw [hv] at HD1
    obtain ⟨⟨R1,R2⟩,x2⟩:=x
    simp only at hx2
    subst hx2
    by_cases hg:vckE ps r=0
    · cases he:extI ps r m1 with
      | false=>exact vown_2 ps W v r m1 m2 p R1 R2 _ hx _ _ _ (.inr ⟨hg,he⟩) HB HS1 HD1 (HD r) (HX r m1)
      | true =>
        obtain ⟨⟨y1,⟨n1,n2⟩⟩,hy,hyx,_,hov,hey,_,p2,hs2,hp2⟩:=hall r hg he
        simp only at hyx
        subst hyx
        have HD2:=HD r
        rw [hg] at HD2
        have HX1:=HX r m1
        rw [he] at HX1
        have HX2:=HX r n1
        rw [hey] at HX2
        have HS2:=HS n1 n2
        rw [hs2] at HS2
        refine vown_3 ps W v r m1 m2 p R1 R2 _ hx _ n1 n2 hy p2 hp2 HB HS1 HD1 HD2 HX1 (fun b w hw=>?_) HS2 HX2
        have:=ovr_c hw hWI n1 n2 m1 m2
        rw [hov] at this
        exact this
    · exact vown_2 ps W v r m1 m2 p R1 R2 _ hx _ _ _ (.inl hg) HB HS1 HD1 (HD r) (HX r m1)
  · have HS1:=HS m1 m2
    rw [hs1] at HS1
    exact vown_1 ps W v r m1 m2 _ hs2 HB HS1
end Go.Proofs.YtjlfnelihbdhjaaGreat
