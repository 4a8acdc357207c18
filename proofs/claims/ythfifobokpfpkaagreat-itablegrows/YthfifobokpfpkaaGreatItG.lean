import Derived.Test.YthfifobokpfpkaaGreatLzE
import Derived.Test.YthfifobokpfpkaaGreatAcE
set_option maxRecDepth 100000
namespace Go.Proofs.YthfifobokpfpkaaGreat
open Go.RowKit Go.Maps
set_option maxHeartbeats 4000000 in
theorem sameIDs_big (N1 N2:Nat) (l:List (Int×Int)) (v1 v2:Value) (W:World) (h1:W.ownsRow N1 24 2 v1 l.length (flatD l)) (h2:W.ownsRow N2 24 2 v2 l.length (flatD l)) (hn:l.length≤1000000000):Calls Tryz.prog 67 #[v1,v2] W fun e w'=>e=.returned (.bool true)∧Below W.heap.size W w':=by
  obtain ⟨a1,c1,rfl⟩:=ownv h1
  obtain ⟨a2,c2,rfl⟩:=ownv h2
  have H1:Hid (W.ownsRow N1 24 2 (.slice a1 l.length c1) l.length (flatD l)):=h1
  have H2:Hid (W.ownsRow N2 24 2 (.slice a2 l.length c2) l.length (flatD l)):=h2
  obtain ⟨K,hK⟩:∃ K,l.length=K:=⟨_,rfl⟩
  have HK:Hid (l.length=K):=hK
  rw [hK] at hn ⊢
  clear h1 h2 hK
  go_enter Tryz.func67,Tryz.ntmps67
  go_wp2
  go_loopw [5] (fun iv wr=>∃ i:Nat,iv=.int .i64 i∧i≤K∧Hid (Below W.heap.size W wr)) (fun iv _=>K - (intOf iv).toNat)
  case atStart=>exact ⟨0,rfl,Nat.zero_le _,Below.refl _ _⟩
  case round =>
    obtain ⟨i,rfl,hi,hb⟩:=hrel
    by_cases hlt:i<K
    · have hlq:i<l.length:=by rw [HK.out];exact hlt
      obtain ⟨x,hx⟩:∃ x,l[i]?=some x:=⟨_,List.getElem?_eq_getElem hlq⟩
      obtain ⟨g1,d1,hf1⟩:=Go.Joins.ownsRow_form H1.out (by omega)
      obtain ⟨g2,d2,hf2⟩:=Go.Joins.ownsRow_form H2.out (by omega)
      have r1:=H1.out
      have r2:=H2.out
      rw [hf1] at r1
      rw [hf2] at r2
      obtain ⟨e0,e1,hgl1⟩:=rowD_cells r1 hx
      obtain ⟨f0,f1,hgl2⟩:=rowD_cells r2 hx
      injection hf1 with ha1 _ hc1
      injection hf2 with ha2 _ hc2
      subst ha1 hc1 ha2 hc2
      obtain ⟨σ,V,hne,V1,V2⟩:=class_of' (fun w'=>Below W.heap.size W w') ⟨_,Below.refl _ _⟩
      have kp:∀ (s:σ) (bb j:Nat) (v:Value),bb<W.heap.size→W.cell? ⟨bb,j,none⟩=some v→(V s).cell? ⟨bb,j,none⟩=some v:=fun s bb j v hl h=>((V1.out s).cell (p:=⟨bb,j,none⟩) hl).trans h
      replace e0:=fun s=>kp s _ _ _ hgl1 e0
      replace e1:=fun s=>kp s _ _ _ hgl1 e1
      replace f0:=fun s=>kp s _ _ _ hgl2 f0
      replace f1:=fun s=>kp s _ _ _ hgl2 f1
      have HS:Hid (∀ s,Calls Tryz.prog 20 #[.agg #[.int .i64 x.1,.int .i64 x.2],.agg #[.int .i64 x.1,.int .i64 x.2]] (V s) fun e w'=>e=.returned (.bool true)∧∃ s',w'=V s'):=fun s=>(sameID_c x x (V s)).mono fun e w' zz=>⟨by rw [zz.1];simp,V2.out _ (bstep (V1.out s) zz.2)⟩
      have hiI:(i:Int)<(K:Int):=by omega
      obtain ⟨x1,x2⟩:=x
      simp only at e0 e1 f0 f1 HS
      clear hx r1 r2 kp hlq H1 H2
      go_wp2
      refine wp_region_class (C:=fun w'=>∃ s,w'=V s) (by kernel_rfl) (by kernel_rfl) (V2.out _ (hb.out.drew)) ?_
      repeat (go_big_quiet_step ((go_at_call 20;exact HS.out _)))
      refine wpQuiet_nil ?_
      intro w9 hw9
      obtain ⟨s9,rfl⟩:=hw9
      have B9:Hid (Below W.heap.size W (V s9)):=V1.out s9
      go_wp2
      go_roundw
      case rel=>exact ⟨i+1,by go_num,by omega,B9⟩
      case measure=>simp [intOf];omega
    · have e:i=K:=by omega
      subst e
      go_wp2
      exact bodyPost_ret (results_tmp rfl _ _ _) rfl ⟨rfl,hb.out⟩
theorem rowKeepM {w w':World} {N z B e s:Nat} {v:Value} {n:Nat} {xs:List Value} (h:w.ownsRow B e s v n xs) (hz:z≤B) (hb:KeepN N z w w'):w'.ownsRow B e s v n xs:=by
  refine ⟨h.1,?_⟩
  rcases h.2 with h1|⟨g,cap,cur,h1,h2,h3,h4⟩
  · exact .inl h1
  · exact .inr ⟨g,cap,cur,h1,h2,(hb.block g (.inr ⟨by omega,(Array.getElem?_eq_some_iff.1 h3).1⟩)).trans h3,h4⟩
set_option maxHeartbeats 16000000 in
theorem igr_1 (ps:List Plc) (W:World) (v:Value) (c:Cls) (ai:Option Addr) (ni ci:Nat) (am:Option Addr) (nm cm:Nat) (id:Int) (T:List Ent) (n:Nat) (E:Int) (he:n=0∧(E=3∨E=23)) (HB:Hid (∀ w:World,Below W.heap.size W w→Calls Tryz.prog 64 #[v] w fun e w'=>(∃ b,e=.returned (.pointer (some ⟨b,0,none⟩))∧WN w.heap.size w'.heap.size b ps w')∧Below w.heap.size w w')) (HD:Hid (∀ b w,WAt b ps w→Calls Tryz.prog 68 #[.pointer (some ⟨b,0,none⟩),.int .i64 id] w fun e w'=>(∃ v,e=.returned (.tuple #[v,.int .i64 E])∧w'.ownsRow w.heap.size 103 8 v n (flat8 T))∧Below w.heap.size w w')):Calls Tryz.prog 13 #[v,.agg #[.string c.nm,.string c.su,.slice ai ni ci,.int .i64 c.fl,.int .i64 c.ld,.slice am nm cm],.int .i64 id] W fun e w'=>e=.returned (.bool true)∧Below W.heap.size W w':=by
  have HA:Hid (∀ w:World,Calls Tryz.prog 63 #[] w fun e w'=>e=.returned (.bool true)∧Below w.heap.size w w'):=awake14_c
  have BB:Hid (Below W.heap.size W W):=Below.refl _ _
  obtain ⟨rfl,he⟩:=he
  rcases he with rfl|rfl
  all_goals
    go_enter Tryz.func13,Tryz.ntmps13
    go_wp2_with (first
      | (go_at_call 63;refine (HA.out _).mono ?_;rintro e w1 ⟨rfl,hb⟩;have nxd:=kp6 (n:=W.heap.size) hb;(try clear nxB nx0 nx1 nx2 nx3 nx4 nx5 nxf nxL nxN);obtain ⟨nxB,nx0,nx1,nx2,nx3,nx4,nx5,nxf,nxL,nxN⟩:=nxd;have q1:W.heap.size<w1.heap.size:=nxL;have BB2:Below W.heap.size W w1:=bstep (by repeat (first|refine Below.setCell ?_ (by simp;try omega) _|refine Below.alloc ?_ (by have:=BB.out.size;simp;try omega) _|refine Below.drew ?_|exact BB.out)) hb;clear BB;have BB:Hid (Below W.heap.size W w1):=BB2;clear BB2;clear hb HA)
      | (go_at_call 64;refine (HB.out _ BB.out).mono ?_;rintro e w2 ⟨⟨b,rfl,hw⟩,hb⟩;have HH:Hid (WN w1.heap.size w2.heap.size b ps w2):=hw;have nxd:=kp6 (n:=W.heap.size) hb;(try clear nxB nx0 nx1 nx2 nx3 nx4 nx5 nxf nxL nxN);obtain ⟨nxB,nx0,nx1,nx2,nx3,nx4,nx5,nxf,nxL,nxN⟩:=nxd;have BB2:Below W.heap.size W w2:=bstep (by repeat (first|refine Below.setCell ?_ (by simp;try omega) _|refine Below.alloc ?_ (by have:=BB.out.size;simp;try omega) _|refine Below.drew ?_|exact BB.out)) hb;clear BB;have BB:Hid (Below W.heap.size W w2):=BB2;clear BB2;clear hb HB hw)
      | (go_at_call 68;refine (HD.out _ _ HH.out.wat).mono ?_;rintro e w3 ⟨⟨vo,rfl,ho⟩,hb⟩;obtain ⟨x1,x2,rfl⟩:=ownv ho;have O3:Hid (w3.ownsRow w2.heap.size 103 8 (.slice x1 0 x2) 0 (flat8 T)):=ho;have q2:w2.heap.size≤w3.heap.size:=hb.size;have nxd:=kp6 (n:=W.heap.size) hb;(try clear nxB nx0 nx1 nx2 nx3 nx4 nx5 nxf nxL nxN);obtain ⟨nxB,nx0,nx1,nx2,nx3,nx4,nx5,nxf,nxL,nxN⟩:=nxd;have HH2:=HH.out.below hb;clear HH;have HH:Hid (WN w1.heap.size w2.heap.size b ps w3):=HH2;clear HH2;have BB2:Below W.heap.size W w3:=bstep (by repeat (first|refine Below.setCell ?_ (by simp;try omega) _|refine Below.alloc ?_ (by have:=BB.out.size;simp;try omega) _|refine Below.drew ?_|exact BB.out)) hb;clear BB;have BB:Hid (Below W.heap.size W w3):=BB2;clear BB2;clear hb HD ho))
  all_goals go_ret
  all_goals exact ⟨retB (by simp [*]),(by repeat (first|refine Below.setCell ?_ (by simp;try omega) _|refine Below.alloc ?_ (by have:=BB.out.size;simp;try omega) _|refine Below.drew ?_|exact BB.out))⟩
set_option maxHeartbeats 16000000 in
theorem igr_2 (ps ps2:List Plc) (W:World) (v:Value) (c:Cls) (ai:Option Addr) (ni ci:Nat) (am:Option Addr) (nm cm:Nat) (id:Int) (T:List Ent) (n:Nat) (R:List (Int×Int)) (HB:Hid (∀ w:World,Below W.heap.size W w→Calls Tryz.prog 64 #[v] w fun e w'=>(∃ b,e=.returned (.pointer (some ⟨b,0,none⟩))∧WN w.heap.size w'.heap.size b ps w')∧Below w.heap.size w w')) (HD:Hid (∀ b w,WAt b ps w→Calls Tryz.prog 68 #[.pointer (some ⟨b,0,none⟩),.int .i64 id] w fun e w'=>(∃ v,e=.returned (.tuple #[v,.int .i64 0])∧w'.ownsRow w.heap.size 103 8 v n (flat8 T))∧Below w.heap.size w w')) (HR:Hid (∀ b w,WAt b ps w→Calls Tryz.prog 65 #[.pointer (some ⟨b,0,none⟩),.int .i64 id] w fun e w'=>(∃ v,e=.returned (.tuple #[v,.int .i64 0])∧w'.ownsRow w.heap.size 24 2 v n (flatD R))∧Below w.heap.size w w')) (HU:Hid (∀ b w,WAt b ps w→Calls Tryz.prog 37 #[.pointer (some ⟨b,0,none⟩),.int .i64 id] w fun e w'=>e=.returned (.tuple #[.int .i64 0,.int .i64 6])∧w'=w)) (HDf:Hid (∀ n0 z0 b w,WN n0 z0 b ps w→Below W.heap.size W w→Calls Tryz.prog 28 #[.pointer (some ⟨b,0,none⟩),.agg #[.string c.nm,.string c.su,.slice ai ni ci,.int .i64 c.fl,.int .i64 c.ld,.slice am nm cm]] w fun e w'=>(∃ u,e=.returned u)∧WAt b ps2 w'∧KeepN n0 z0 w w')) (HD3:Hid (∀ b w,WAt b ps2 w→Calls Tryz.prog 68 #[.pointer (some ⟨b,0,none⟩),.int .i64 id] w fun e w'=>(∃ v,e=.returned (.tuple #[v,.int .i64 0])∧w'.ownsRow w.heap.size 103 8 v n (flat8 T))∧Below w.heap.size w w')) (SS:Hid (∀ (N1 N2:Nat) (v1 v2:Value) (w:World),w.ownsRow N1 103 8 v1 n (flat8 T)→w.ownsRow N2 103 8 v2 n (flat8 T)→Calls Tryz.prog 70 #[v1,v2] w fun e w'=>e=.returned (.bool true)∧Below w.heap.size w w'))  : Calls Tryz.prog 13 #[v,.agg #[.string c.nm,.string c.su,.slice ai ni ci,.int .i64 c.fl,.int .i64 c.ld,.slice am nm cm],.int .i64 id] W fun e w'=>e=.returned (.bool true)∧Below W.heap.size W w':=by
  have HA:Hid (∀ w:World,Calls Tryz.prog 63 #[] w fun e w'=>e=.returned (.bool true)∧Below w.heap.size w w'):=awake14_c
  have BB:Hid (Below W.heap.size W W):=Below.refl _ _
  go_enter Tryz.func13,Tryz.ntmps13
  go_wp2_with (first
    | (go_at_call 63;refine (HA.out _).mono ?_;rintro e w1 ⟨rfl,hb⟩;have nxd:=kp6 (n:=W.heap.size) hb;(try clear nxB nx0 nx1 nx2 nx3 nx4 nx5 nxf nxL nxN);obtain ⟨nxB,nx0,nx1,nx2,nx3,nx4,nx5,nxf,nxL,nxN⟩:=nxd;have q1:W.heap.size<w1.heap.size:=nxL;have BB2:Below W.heap.size W w1:=bstep (by repeat (first|refine Below.setCell ?_ (by simp;try omega) _|refine Below.alloc ?_ (by have:=BB.out.size;simp;try omega) _|refine Below.drew ?_|exact BB.out)) hb;clear BB;have BB:Hid (Below W.heap.size W w1):=BB2;clear BB2;clear hb HA)
    | (go_at_call 64;refine (HB.out _ BB.out).mono ?_;rintro e w2 ⟨⟨b,rfl,hw⟩,hb⟩;have HH:Hid (WN w1.heap.size w2.heap.size b ps w2):=hw;have nxd:=kp6 (n:=W.heap.size) hb;(try clear nxB nx0 nx1 nx2 nx3 nx4 nx5 nxf nxL nxN);obtain ⟨nxB,nx0,nx1,nx2,nx3,nx4,nx5,nxf,nxL,nxN⟩:=nxd;have BB2:Below W.heap.size W w2:=bstep (by repeat (first|refine Below.setCell ?_ (by simp;try omega) _|refine Below.alloc ?_ (by have:=BB.out.size;simp;try omega) _|refine Below.drew ?_|exact BB.out)) hb;clear BB;have BB:Hid (Below W.heap.size W w2):=BB2;clear BB2;clear hb HB hw)
    | (go_at_call 68;refine (HD.out _ _ HH.out.wat).mono ?_;rintro e w3 ⟨⟨vo,rfl,ho⟩,hb⟩;obtain ⟨x1,x2,rfl⟩:=ownv ho;have O3:Hid (w3.ownsRow w2.heap.size 103 8 (.slice x1 n x2) n (flat8 T)):=ho;have q2:w2.heap.size≤w3.heap.size:=hb.size;have nxd:=kp6 (n:=W.heap.size) hb;(try clear nxB nx0 nx1 nx2 nx3 nx4 nx5 nxf nxL nxN);obtain ⟨nxB,nx0,nx1,nx2,nx3,nx4,nx5,nxf,nxL,nxN⟩:=nxd;have HH2:=HH.out.below hb;clear HH;have HH:Hid (WN w1.heap.size w2.heap.size b ps w3):=HH2;clear HH2;have BB2:Below W.heap.size W w3:=bstep (by repeat (first|refine Below.setCell ?_ (by simp;try omega) _|refine Below.alloc ?_ (by have:=BB.out.size;simp;try omega) _|refine Below.drew ?_|exact BB.out)) hb;clear BB;have BB:Hid (Below W.heap.size W w3):=BB2;clear BB2;clear hb HD ho)
    | (go_at_call 65;refine (HR.out _ _ HH.out.wat).mono ?_;rintro e w4 ⟨⟨vo,rfl,ho⟩,hb⟩;obtain ⟨y1,y2,rfl⟩:=ownv ho;have R4:Hid (w4.ownsRow w3.heap.size 24 2 (.slice y1 n y2) n (flatD R)):=ho;have O4:Hid (w4.ownsRow w2.heap.size 103 8 (.slice x1 n x2) n (flat8 T)):=rowBelow O3.out hb;have q3:w3.heap.size≤w4.heap.size:=hb.size;have nxd:=kp6 (n:=W.heap.size) hb;(try clear nxB nx0 nx1 nx2 nx3 nx4 nx5 nxf nxL nxN);obtain ⟨nxB,nx0,nx1,nx2,nx3,nx4,nx5,nxf,nxL,nxN⟩:=nxd;have HH2:=HH.out.below hb;clear HH;have HH:Hid (WN w1.heap.size w2.heap.size b ps w4):=HH2;clear HH2;have BB2:Below W.heap.size W w4:=bstep (by repeat (first|refine Below.setCell ?_ (by simp;try omega) _|refine Below.alloc ?_ (by have:=BB.out.size;simp;try omega) _|refine Below.drew ?_|exact BB.out)) hb;clear BB;have BB:Hid (Below W.heap.size W w4):=BB2;clear BB2;clear hb HR ho O3)
    | (go_at_call 37;refine (HU.out _ _ HH.out.wat).mono ?_;rintro e w9 ⟨rfl,hw9⟩;rw [hw9];clear hw9 w9 HU)
    | (go_at_call 28;refine (HDf.out _ _ _ _ HH.out BB.out).mono ?_;rintro e w7 ⟨⟨u4,rfl⟩,hw,hb⟩;have HG:Hid (WAt b ps2 w7):=hw;have O7:Hid (w7.ownsRow w2.heap.size 103 8 (.slice x1 n x2) n (flat8 T)):=rowKeepM O4.out (Nat.le_refl _) hb;have BB2:Below W.heap.size W w7:=BB.out.trans (hb.bel.mono (by omega));clear BB;have BB:Hid (Below W.heap.size W w7):=BB2;clear BB2;clear hb hw HDf HH O4 nxB nx0 nx1 nx2 nx3 nx4 nx5 nxf nxL nxN)
    | (go_at_call 68;refine (HD3.out _ _ HG.out).mono ?_;rintro e w8 ⟨⟨vo,rfl,ho⟩,hb⟩;obtain ⟨t1,t2,rfl⟩:=ownv ho;have P8:Hid (w8.ownsRow w7.heap.size 103 8 (.slice t1 n t2) n (flat8 T)):=ho;have O8:Hid (w8.ownsRow w2.heap.size 103 8 (.slice x1 n x2) n (flat8 T)):=rowBelow O7.out hb;have BB2:Below W.heap.size W w8:=bstep (by repeat (first|refine Below.setCell ?_ (by simp;try omega) _|refine Below.alloc ?_ (by have:=BB.out.size;simp;try omega) _|refine Below.drew ?_|exact BB.out)) hb;clear BB;have BB:Hid (Below W.heap.size W w8):=BB2;clear BB2;clear hb HD3 ho HG O7)
    | (go_at_call 70;refine (SS.out _ _ _ _ _ O8.out P8.out).mono ?_;rintro e w10 ⟨rfl,hb⟩;have BB2:Below W.heap.size W w10:=bstep (by repeat (first|refine Below.setCell ?_ (by simp;try omega) _|refine Below.alloc ?_ (by have:=BB.out.size;simp;try omega) _|refine Below.drew ?_|exact BB.out)) hb;clear BB;have BB:Hid (Below W.heap.size W w10):=BB2;clear BB2;clear hb SS O8 P8))
  all_goals go_ret
  all_goals exact ⟨retB (by simp [*]),(by repeat (first|refine Below.setCell ?_ (by simp;try omega) _|refine Below.alloc ?_ (by have:=BB.out.size;simp;try omega) _|refine Below.drew ?_|exact BB.out))⟩
set_option maxHeartbeats 16000000 in
theorem igr_3 (ps ps2:List Plc) (W:World) (v:Value) (c:Cls) (ai:Option Addr) (ni ci:Nat) (am:Option Addr) (nm cm:Nat) (id:Int) (T:List Ent) (n:Nat) (R:List (Int×Int)) (HB:Hid (∀ w:World,Below W.heap.size W w→Calls Tryz.prog 64 #[v] w fun e w'=>(∃ b,e=.returned (.pointer (some ⟨b,0,none⟩))∧WN w.heap.size w'.heap.size b ps w')∧Below w.heap.size w w')) (HD:Hid (∀ b w,WAt b ps w→Calls Tryz.prog 68 #[.pointer (some ⟨b,0,none⟩),.int .i64 id] w fun e w'=>(∃ v,e=.returned (.tuple #[v,.int .i64 0])∧w'.ownsRow w.heap.size 103 8 v n (flat8 T))∧Below w.heap.size w w')) (HR:Hid (∀ b w,WAt b ps w→Calls Tryz.prog 65 #[.pointer (some ⟨b,0,none⟩),.int .i64 id] w fun e w'=>(∃ v,e=.returned (.tuple #[v,.int .i64 0])∧w'.ownsRow w.heap.size 24 2 v n (flatD R))∧Below w.heap.size w w')) (su:Int) (R0:List (Int×Int)) (n0:Nat) (hn0:n0≤n) (HR0:Hid (R0.length=n0)) (HRT:Hid (R.take n0=R0)) (HU:Hid (∀ b w,WAt b ps w→Calls Tryz.prog 37 #[.pointer (some ⟨b,0,none⟩),.int .i64 id] w fun e w'=>e=.returned (.tuple #[.int .i64 su,.int .i64 0])∧w'=w)) (HR2:Hid (∀ b w,WAt b ps w→Calls Tryz.prog 65 #[.pointer (some ⟨b,0,none⟩),.int .i64 su] w fun e w'=>(∃ v,e=.returned (.tuple #[v,.int .i64 0])∧w'.ownsRow w.heap.size 24 2 v n0 (flatD R0))∧Below w.heap.size w w')) (SI:Hid (∀ (N1 N2:Nat) (v1 v2:Value) (w:World),w.ownsRow N1 24 2 v1 n0 (flatD R0)→w.ownsRow N2 24 2 v2 n0 (flatD R0)→Calls Tryz.prog 67 #[v1,v2] w fun e w'=>e=.returned (.bool true)∧Below w.heap.size w w')) (HDf:Hid (∀ n0 z0 b w,WN n0 z0 b ps w→Below W.heap.size W w→Calls Tryz.prog 28 #[.pointer (some ⟨b,0,none⟩),.agg #[.string c.nm,.string c.su,.slice ai ni ci,.int .i64 c.fl,.int .i64 c.ld,.slice am nm cm]] w fun e w'=>(∃ u,e=.returned u)∧WAt b ps2 w'∧KeepN n0 z0 w w')) (HD3:Hid (∀ b w,WAt b ps2 w→Calls Tryz.prog 68 #[.pointer (some ⟨b,0,none⟩),.int .i64 id] w fun e w'=>(∃ v,e=.returned (.tuple #[v,.int .i64 0])∧w'.ownsRow w.heap.size 103 8 v n (flat8 T))∧Below w.heap.size w w')) (SS:Hid (∀ (N1 N2:Nat) (v1 v2:Value) (w:World),w.ownsRow N1 103 8 v1 n (flat8 T)→w.ownsRow N2 103 8 v2 n (flat8 T)→Calls Tryz.prog 70 #[v1,v2] w fun e w'=>e=.returned (.bool true)∧Below w.heap.size w w'))  : Calls Tryz.prog 13 #[v,.agg #[.string c.nm,.string c.su,.slice ai ni ci,.int .i64 c.fl,.int .i64 c.ld,.slice am nm cm],.int .i64 id] W fun e w'=>e=.returned (.bool true)∧Below W.heap.size W w':=by
  have HA:Hid (∀ w:World,Calls Tryz.prog 63 #[] w fun e w'=>e=.returned (.bool true)∧Below w.heap.size w w'):=awake14_c
  have BB:Hid (Below W.heap.size W W):=Below.refl _ _
  have hn0I:¬ (n:Int)<(n0:Int):=by omega
  have hn0N:¬ n<n0:=by omega
  have hn0d:decide (n<n0)=false:=by simp;omega
  have hn0e:decide ((n:Int)<(n0:Int))=false:=by simp;omega
  go_enter Tryz.func13,Tryz.ntmps13
  go_upto_region 13 with (first
    | (go_at_call 63;refine (HA.out _).mono ?_;rintro e w1 ⟨rfl,hb⟩;have nxd:=kp6 (n:=W.heap.size) hb;(try clear nxB nx0 nx1 nx2 nx3 nx4 nx5 nxf nxL nxN);obtain ⟨nxB,nx0,nx1,nx2,nx3,nx4,nx5,nxf,nxL,nxN⟩:=nxd;have q1:W.heap.size<w1.heap.size:=nxL;have BB2:Below W.heap.size W w1:=bstep (by repeat (first|refine Below.setCell ?_ (by simp;try omega) _|refine Below.alloc ?_ (by have:=BB.out.size;simp;try omega) _|refine Below.drew ?_|exact BB.out)) hb;clear BB;have BB:Hid (Below W.heap.size W w1):=BB2;clear BB2;clear hb HA)
    | (go_at_call 64;refine (HB.out _ BB.out).mono ?_;rintro e w2 ⟨⟨b,rfl,hw⟩,hb⟩;have HH:Hid (WN w1.heap.size w2.heap.size b ps w2):=hw;have nxd:=kp6 (n:=W.heap.size) hb;(try clear nxB nx0 nx1 nx2 nx3 nx4 nx5 nxf nxL nxN);obtain ⟨nxB,nx0,nx1,nx2,nx3,nx4,nx5,nxf,nxL,nxN⟩:=nxd;have BB2:Below W.heap.size W w2:=bstep (by repeat (first|refine Below.setCell ?_ (by simp;try omega) _|refine Below.alloc ?_ (by have:=BB.out.size;simp;try omega) _|refine Below.drew ?_|exact BB.out)) hb;clear BB;have BB:Hid (Below W.heap.size W w2):=BB2;clear BB2;clear hb HB hw)
    | (go_at_call 68;refine (HD.out _ _ HH.out.wat).mono ?_;rintro e w3 ⟨⟨vo,rfl,ho⟩,hb⟩;obtain ⟨x1,x2,rfl⟩:=ownv ho;have O3:Hid (w3.ownsRow w2.heap.size 103 8 (.slice x1 n x2) n (flat8 T)):=ho;have q2:w2.heap.size≤w3.heap.size:=hb.size;have nxd:=kp6 (n:=W.heap.size) hb;(try clear nxB nx0 nx1 nx2 nx3 nx4 nx5 nxf nxL nxN);obtain ⟨nxB,nx0,nx1,nx2,nx3,nx4,nx5,nxf,nxL,nxN⟩:=nxd;have HH2:=HH.out.below hb;clear HH;have HH:Hid (WN w1.heap.size w2.heap.size b ps w3):=HH2;clear HH2;have BB2:Below W.heap.size W w3:=bstep (by repeat (first|refine Below.setCell ?_ (by simp;try omega) _|refine Below.alloc ?_ (by have:=BB.out.size;simp;try omega) _|refine Below.drew ?_|exact BB.out)) hb;clear BB;have BB:Hid (Below W.heap.size W w3):=BB2;clear BB2;clear hb HD ho)
    | (go_at_call 65;refine (HR.out _ _ HH.out.wat).mono ?_;rintro e w4 ⟨⟨vo,rfl,ho⟩,hb⟩;obtain ⟨y1,y2,rfl⟩:=ownv ho;have R4:Hid (w4.ownsRow w3.heap.size 24 2 (.slice y1 n y2) n (flatD R)):=ho;have O4:Hid (w4.ownsRow w2.heap.size 103 8 (.slice x1 n x2) n (flat8 T)):=rowBelow O3.out hb;have q3:w3.heap.size≤w4.heap.size:=hb.size;have nxd:=kp6 (n:=W.heap.size) hb;(try clear nxB nx0 nx1 nx2 nx3 nx4 nx5 nxf nxL nxN);obtain ⟨nxB,nx0,nx1,nx2,nx3,nx4,nx5,nxf,nxL,nxN⟩:=nxd;have HH2:=HH.out.below hb;clear HH;have HH:Hid (WN w1.heap.size w2.heap.size b ps w4):=HH2;clear HH2;have BB2:Below W.heap.size W w4:=bstep (by repeat (first|refine Below.setCell ?_ (by simp;try omega) _|refine Below.alloc ?_ (by have:=BB.out.size;simp;try omega) _|refine Below.drew ?_|exact BB.out)) hb;clear BB;have BB:Hid (Below W.heap.size W w4):=BB2;clear BB2;clear hb HR ho O3)
    | (go_at_call 37;refine (HU.out _ _ HH.out.wat).mono ?_;rintro e w9 ⟨rfl,hw9⟩;rw [hw9];clear hw9 w9 HU)
    | (go_at_call 65;refine (HR2.out _ _ HH.out.wat).mono ?_;rintro e w5 ⟨⟨vo,rfl,ho⟩,hb⟩;obtain ⟨z1,z2,rfl⟩:=ownv ho;have S5:Hid (w5.ownsRow w4.heap.size 24 2 (.slice z1 n0 z2) n0 (flatD R0)):=ho;have R5:Hid (w5.ownsRow w3.heap.size 24 2 (.slice y1 n y2) n (flatD R)):=rowBelow R4.out hb;have O5:Hid (w5.ownsRow w2.heap.size 103 8 (.slice x1 n x2) n (flat8 T)):=rowBelow O4.out hb;have nxd:=kp6 (n:=W.heap.size) hb;(try clear nxB nx0 nx1 nx2 nx3 nx4 nx5 nxf nxL nxN);obtain ⟨nxB,nx0,nx1,nx2,nx3,nx4,nx5,nxf,nxL,nxN⟩:=nxd;have HH2:=HH.out.below hb;clear HH;have HH:Hid (WN w1.heap.size w2.heap.size b ps w5):=HH2;clear HH2;have BB2:Below W.heap.size W w5:=bstep (by repeat (first|refine Below.setCell ?_ (by simp;try omega) _|refine Below.alloc ?_ (by have:=BB.out.size;simp;try omega) _|refine Below.drew ?_|exact BB.out)) hb;clear BB;have BB:Hid (Below W.heap.size W w5):=BB2;clear BB2;clear hb HR2 ho R4 O4))
  rcases R5.out.2 with ⟨hnil,hz⟩|⟨g5,cap5,cur5,hv5,_,_,hcap,_⟩
  · injection hnil with p1 p2 p3
    subst p1 p3
    have hn00:n0=0:=by omega
    have hR0:R0=[]:=List.length_eq_zero_iff.1 (HR0.out.trans hn00)
    have RC5:Hid (w5.ownsRow w3.heap.size 24 2 (.slice none 0 0) n0 (flatD R0)):=by rw [hR0,hn00];exact World.ownsRow_nil _ _ _ _
    subst hz hn00
    clear hR0 p2
    go_wp2_with (first
      | (go_at_call 67;refine (SI.out _ _ _ _ _ S5.out RC5.out).mono ?_;rintro e w6 ⟨rfl,hb⟩;have O6:Hid (w6.ownsRow w2.heap.size 103 8 (.slice x1 0 x2) 0 (flat8 T)):=rowBelow O5.out hb;have nxd:=kp6 (n:=W.heap.size) hb;(try clear nxB nx0 nx1 nx2 nx3 nx4 nx5 nxf nxL nxN);obtain ⟨nxB,nx0,nx1,nx2,nx3,nx4,nx5,nxf,nxL,nxN⟩:=nxd;have HH2:=HH.out.below hb;clear HH;have HH:Hid (WN w1.heap.size w2.heap.size b ps w6):=HH2;clear HH2;have BB2:Below W.heap.size W w6:=bstep (by repeat (first|refine Below.setCell ?_ (by simp;try omega) _|refine Below.alloc ?_ (by have:=BB.out.size;simp;try omega) _|refine Below.drew ?_|exact BB.out)) hb;clear BB;have BB:Hid (Below W.heap.size W w6):=BB2;clear BB2;clear hb SI S5 RC5 O5)
      | (go_at_call 28;refine (HDf.out _ _ _ _ HH.out BB.out).mono ?_;rintro e w7 ⟨⟨u4,rfl⟩,hw,hb⟩;have HG:Hid (WAt b ps2 w7):=hw;have O7:Hid (w7.ownsRow w2.heap.size 103 8 (.slice x1 0 x2) 0 (flat8 T)):=rowKeepM O6.out (Nat.le_refl _) hb;have BB2:Below W.heap.size W w7:=BB.out.trans (hb.bel.mono (by omega));clear BB;have BB:Hid (Below W.heap.size W w7):=BB2;clear BB2;clear hb hw HDf HH O6 nxB nx0 nx1 nx2 nx3 nx4 nx5 nxf nxL nxN)
      | (go_at_call 68;refine (HD3.out _ _ HG.out).mono ?_;rintro e w8 ⟨⟨vo,rfl,ho⟩,hb⟩;obtain ⟨t1,t2,rfl⟩:=ownv ho;have P8:Hid (w8.ownsRow w7.heap.size 103 8 (.slice t1 0 t2) 0 (flat8 T)):=ho;have O8:Hid (w8.ownsRow w2.heap.size 103 8 (.slice x1 0 x2) 0 (flat8 T)):=rowBelow O7.out hb;have BB2:Below W.heap.size W w8:=bstep (by repeat (first|refine Below.setCell ?_ (by simp;try omega) _|refine Below.alloc ?_ (by have:=BB.out.size;simp;try omega) _|refine Below.drew ?_|exact BB.out)) hb;clear BB;have BB:Hid (Below W.heap.size W w8):=BB2;clear BB2;clear hb HD3 ho HG O7)
      | (go_at_call 70;refine (SS.out _ _ _ _ _ O8.out P8.out).mono ?_;rintro e w10 ⟨rfl,hb⟩;have BB2:Below W.heap.size W w10:=bstep (by repeat (first|refine Below.setCell ?_ (by simp;try omega) _|refine Below.alloc ?_ (by have:=BB.out.size;simp;try omega) _|refine Below.drew ?_|exact BB.out)) hb;clear BB;have BB:Hid (Below W.heap.size W w10):=BB2;clear BB2;clear hb SS O8 P8))
    all_goals go_ret
    all_goals exact ⟨retB (by simp [*]),(by repeat (first|refine Below.setCell ?_ (by simp;try omega) _|refine Below.alloc ?_ (by have:=BB.out.size;simp;try omega) _|refine Below.drew ?_|exact BB.out))⟩
  · injection hv5 with p1 p2 p3
    subst p1 p3
    have RC5:Hid (w5.ownsRow w3.heap.size 24 2 (.slice (some ⟨g5,0,none⟩) n0 y2) n0 (flatD R0)):=by
      have:=rowD_cut R5.out hn0
      rw [HRT.out] at this
      exact this
    have hcI:n0≤y2:=by omega
    clear p2
    go_wp2_with (first
      | (go_at_call 67;refine (SI.out _ _ _ _ _ S5.out RC5.out).mono ?_;rintro e w6 ⟨rfl,hb⟩;have O6:Hid (w6.ownsRow w2.heap.size 103 8 (.slice x1 n x2) n (flat8 T)):=rowBelow O5.out hb;have nxd:=kp6 (n:=W.heap.size) hb;(try clear nxB nx0 nx1 nx2 nx3 nx4 nx5 nxf nxL nxN);obtain ⟨nxB,nx0,nx1,nx2,nx3,nx4,nx5,nxf,nxL,nxN⟩:=nxd;have HH2:=HH.out.below hb;clear HH;have HH:Hid (WN w1.heap.size w2.heap.size b ps w6):=HH2;clear HH2;have BB2:Below W.heap.size W w6:=bstep (by repeat (first|refine Below.setCell ?_ (by simp;try omega) _|refine Below.alloc ?_ (by have:=BB.out.size;simp;try omega) _|refine Below.drew ?_|exact BB.out)) hb;clear BB;have BB:Hid (Below W.heap.size W w6):=BB2;clear BB2;clear hb SI S5 RC5 O5)
      | (go_at_call 28;refine (HDf.out _ _ _ _ HH.out BB.out).mono ?_;rintro e w7 ⟨⟨u4,rfl⟩,hw,hb⟩;have HG:Hid (WAt b ps2 w7):=hw;have O7:Hid (w7.ownsRow w2.heap.size 103 8 (.slice x1 n x2) n (flat8 T)):=rowKeepM O6.out (Nat.le_refl _) hb;have BB2:Below W.heap.size W w7:=BB.out.trans (hb.bel.mono (by omega));clear BB;have BB:Hid (Below W.heap.size W w7):=BB2;clear BB2;clear hb hw HDf HH O6 nxB nx0 nx1 nx2 nx3 nx4 nx5 nxf nxL nxN)
      | (go_at_call 68;refine (HD3.out _ _ HG.out).mono ?_;rintro e w8 ⟨⟨vo,rfl,ho⟩,hb⟩;obtain ⟨t1,t2,rfl⟩:=ownv ho;have P8:Hid (w8.ownsRow w7.heap.size 103 8 (.slice t1 n t2) n (flat8 T)):=ho;have O8:Hid (w8.ownsRow w2.heap.size 103 8 (.slice x1 n x2) n (flat8 T)):=rowBelow O7.out hb;have BB2:Below W.heap.size W w8:=bstep (by repeat (first|refine Below.setCell ?_ (by simp;try omega) _|refine Below.alloc ?_ (by have:=BB.out.size;simp;try omega) _|refine Below.drew ?_|exact BB.out)) hb;clear BB;have BB:Hid (Below W.heap.size W w8):=BB2;clear BB2;clear hb HD3 ho HG O7)
      | (go_at_call 70;refine (SS.out _ _ _ _ _ O8.out P8.out).mono ?_;rintro e w10 ⟨rfl,hb⟩;have BB2:Below W.heap.size W w10:=bstep (by repeat (first|refine Below.setCell ?_ (by simp;try omega) _|refine Below.alloc ?_ (by have:=BB.out.size;simp;try omega) _|refine Below.drew ?_|exact BB.out)) hb;clear BB;have BB:Hid (Below W.heap.size W w10):=BB2;clear BB2;clear hb SS O8 P8))
    all_goals go_ret
    all_goals exact ⟨retB (by simp [*]),(by repeat (first|refine Below.setCell ?_ (by simp;try omega) _|refine Below.alloc ?_ (by have:=BB.out.size;simp;try omega) _|refine Below.drew ?_|exact BB.out))⟩
theorem ItableGrows_any (v:Value) (l:List Cls) (c:Cls) (vi vm:Value) (id:Int) (W:World) (h:IsClss W v l) (hin:ClsIn W vi vm c):Calls Tryz.prog 13 #[v,clsV c vi vm,.int .i64 id] W fun e w'=>e=.returned (.bool true)∧Below W.heap.size W w':=by
  obtain ⟨ai,ni,ci,rfl⟩:=shp_slice hin.si
  obtain ⟨am,nm,cm,rfl⟩:=shp_slice hin.sm
  have hCW:=clss_w h
  obtain ⟨hWI,hWJ⟩:=wld_wj l hCW
  have HB:∀ w:World,Below W.heap.size W w→Calls Tryz.prog 64 #[v] w fun e w'=>(∃ b,e=.returned (.pointer (some ⟨b,0,none⟩))∧WN w.heap.size w'.heap.size b (wld l) w')∧Below w.heap.size w w':=fun w hb=>(built14_n v l w (clss_keep h hb)).mono fun e w' zz=>by
    obtain ⟨⟨b,rfl,mb,vp,pv,hw⟩,hb2⟩:=zz
    exact ⟨⟨b,rfl,WN.of hw hb2.size⟩,hb2⟩
  generalize wld l=ps at *
  have hWI2:WI (dfP ps (defN ps c)):=hWI.define c hin.ok
  have HD:∀ x b w,WAt b ps w→Calls Tryz.prog 68 #[.pointer (some ⟨b,0,none⟩),.int .i64 x] w fun e w'=>(∃ v,e=.returned (.tuple #[v,.int .i64 (itE ps x)])∧w'.ownsRow w.heap.size 103 8 v (itT ps x).length (flat8 (itT ps x)))∧Below w.heap.size w w':=fun x b w hw=>build14_c hw hWI x
  have HR:∀ x b w,WAt b ps w→Calls Tryz.prog 65 #[.pointer (some ⟨b,0,none⟩),.int .i64 x] w fun e w'=>(∃ v,e=.returned (.tuple #[v,.int .i64 (itE ps x)])∧w'.ownsRow w.heap.size 24 2 v (rtsR ps x).length (flatD (rtsR ps x)))∧Below w.heap.size w w':=fun x b w hw=>roots_c hw hWI x
  have hdef:∀ n0 z0 b w,WN n0 z0 b ps w→Below W.heap.size W w→Calls Tryz.prog 28 #[.pointer (some ⟨b,0,none⟩),.agg #[.string c.nm,.string c.su,.slice ai ni ci,.int .i64 c.fl,.int .i64 c.ld,.slice am nm cm]] w fun e w'=>(∃ u,e=.returned u)∧WAt b (dfP ps (defN ps c)) w'∧KeepN n0 z0 w w':=fun n0 z0 b w hw hb=>define_n hw hWI c _ _ (hin.keep hb)
  show Calls Tryz.prog 13 #[v,.agg #[.string c.nm,.string c.su,.slice ai ni ci,.int .i64 c.fl,.int .i64 c.ld,.slice am nm cm],.int .i64 id] W fun e w'=>e=.returned (.bool true)∧Below W.heap.size W w'
  have hlen:∀ x,(rtsR ps x).length=(itT ps x).length:=fun x=>by rw [itT,List.length_map]
  rcases it_cases ps id with ⟨h0,k,q,rfl,hq,hf,hr⟩|⟨hT,he⟩
  · have hk:=(List.getElem?_eq_some_iff.1 hq).1
    have hb:(itT ps (k:Int)).length≤301000000:=by rw [← hlen,hr];exact rts_len hWI hq
    have HD1:=HD (k:Int)
    rw [h0] at HD1
    have HR1:=HR (k:Int)
    rw [h0,hlen] at HR1
    have hgr:itT (dfP ps (defN ps c)) (k:Int)=itT ps (k:Int)∧itE (dfP ps (defN ps c)) (k:Int)=itE ps (k:Int):=by
      cases hd:defN ps c with
      | error e=>exact ⟨rfl,rfl⟩
      | ok p =>
        rw [hd] at hWI2
        obtain ⟨_,_,hn,s,l,_,_,rfl⟩:=def_ok hd
        exact Gr.itT ⟨hWI,hWI2,hn⟩ hq
    have HD3:∀ b w,WAt b (dfP ps (defN ps c)) w→Calls Tryz.prog 68 #[.pointer (some ⟨b,0,none⟩),.int .i64 (k:Int)] w fun e w'=>(∃ v,e=.returned (.tuple #[v,.int .i64 0])∧w'.ownsRow w.heap.size 103 8 v (itT ps (k:Int)).length (flat8 (itT ps (k:Int))))∧Below w.heap.size w w':=fun b w hw=>by
      have:=build14_c hw hWI2 (k:Int)
      rw [hgr.1,hgr.2,h0] at this
      exact this
    have hSS:∀ (N1 N2:Nat) (v1 v2:Value) (w:World),w.ownsRow N1 103 8 v1 (itT ps (k:Int)).length (flat8 (itT ps (k:Int)))→w.ownsRow N2 103 8 v2 (itT ps (k:Int)).length (flat8 (itT ps (k:Int)))→Calls Tryz.prog 70 #[v1,v2] w fun e w'=>e=.returned (.bool true)∧Below w.heap.size w w':=fun N1 N2 v1 v2 w h1 h2=>sameEntries_eq N1 N2 _ v1 v2 w h1 h2 (by omega)
    have HS:∀ b w,WAt b ps w→Calls Tryz.prog 37 #[.pointer (some ⟨b,0,none⟩),.int .i64 (k:Int)] w fun e w'=>e=.returned (if k=0 then .tuple #[.int .i64 0,.int .i64 6] else .tuple #[.int .i64 (q.sp:Int),.int .i64 0])∧w'=w:=fun b w hw=>by
      obtain ⟨N,mb,vp,pv,hw⟩:=hw
      exact super_yes N b mb ps vp pv k q w hw hq
    by_cases hk0:k=0
    · have HS1:∀ b w,WAt b ps w→Calls Tryz.prog 37 #[.pointer (some ⟨b,0,none⟩),.int .i64 (k:Int)] w fun e w'=>e=.returned (.tuple #[.int .i64 0,.int .i64 6])∧w'=w:=fun b w hw=>by
        have:=HS b w hw
        rw [if_pos hk0] at this
        exact this
      exact igr_2 ps _ W v c ai ni ci am nm cm (k:Int) _ _ _ HB HD1 HR1 HS1 hdef HD3 hSS
    · have HS1:∀ b w,WAt b ps w→Calls Tryz.prog 37 #[.pointer (some ⟨b,0,none⟩),.int .i64 (k:Int)] w fun e w'=>e=.returned (.tuple #[.int .i64 (q.sp:Int),.int .i64 0])∧w'=w:=fun b w hw=>by
        have:=HS b w hw
        rw [if_neg hk0] at this
        exact this
      have hkl:k<(ps.map nd).length:=by rw [List.length_map];exact hk
      have hwo:=hWI.wo.sp k (nd q) (by omega) (by rw [List.getElem?_map,hq];rfl)
      have hsl:q.sp<ps.length:=Nat.lt_trans hwo.1 hk
      have hs:ps[q.sp]?=some ps[q.sp]:=List.getElem?_eq_getElem hsl
      have hsf:ifcI ps (q.sp:Int)=false:=by
        rw [ifcI,plcI_nat,hs]
        exact (hwo.2.1 (nd ps[q.sp]) (by rw [List.getElem?_map];show Option.map nd ps[q.sp]?=_;rw [hs];rfl)).1
      have hpl:plcI ps (q.sp:Int)=some ps[q.sp]:=by rw [plcI_nat];exact hs
      have hsr:rtsR ps (q.sp:Int)=rtsP ps ps[q.sp]:=by rw [rtsR,hpl];simp [hsf]
      have hse:itE ps (q.sp:Int)=0:=by rw [itE,hpl];simp [hsf]
      obtain ⟨t,ht⟩:=rts_begins hWI hWJ hq hs
      have HR2:=HR (q.sp:Int)
      rw [hse] at HR2
      have e2:rtsR ps (k:Int)=rtsR ps (q.sp:Int)++t:=by rw [hr,hsr];exact ht
      have hle:(rtsR ps (q.sp:Int)).length≤(itT ps (k:Int)).length:=by rw [← hlen,e2,List.length_append];omega
      exact igr_3 ps _ W v c ai ni ci am nm cm (k:Int) _ _ _ HB HD1 HR1 _ _ _ hle rfl (by rw [Hid,e2,List.take_left]) HS1 HR2 (fun N1 N2 v1 v2 w h1 h2=>sameIDs_big N1 N2 _ v1 v2 w h1 h2 (by omega)) hdef HD3 hSS
  · exact igr_1 ps W v c ai ni ci am nm cm id _ _ _ ⟨by rw [itT,hT];rfl,he⟩ HB (HD id)
end Go.Proofs.YthfifobokpfpkaaGreat
