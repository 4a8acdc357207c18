import Derived.Test.YtjlfnelihbdhjaaGreatVtR
set_option maxRecDepth 100000
namespace Go.Proofs.YtjlfnelihbdhjaaGreat
open Go.RowKit Go.Maps
set_option maxHeartbeats 16000000 in
theorem vgr_1 (ps:List Plc) (W:World) (v:Value) (c:Cls) (ai:Option Addr) (ni ci:Nat) (am:Option Addr) (nm cm:Nat) (id:Int) (T:List Sl) (n:Nat) (E:Int) (he:n=0∧(E=3∨E=23)) (HB:Hid (∀ w:World,Below W.heap.size W w→Calls Tryz.prog 45 #[v] w fun e w'=>(∃ b,e=.returned (.pointer (some ⟨b,0,none⟩))∧WN w.heap.size w'.heap.size b ps w')∧Below w.heap.size w w')) (HD:Hid (∀ b w,WAt b ps w→Calls Tryz.prog 46 #[.pointer (some ⟨b,0,none⟩),.int .i64 id] w fun e w'=>(∃ v,e=.returned (.tuple #[v,.int .i64 E])∧w'.ownsRow w.heap.size 86 4 v n (flat4 T))∧Below w.heap.size w w')):Calls Tryz.prog 12 #[v,.agg #[.string c.nm,.string c.su,.slice ai ni ci,.int .i64 c.fl,.int .i64 c.ld,.slice am nm cm],.int .i64 id] W fun e w'=>e=.returned (.bool true)∧Below W.heap.size W w':=by
  have HA:Hid (∀ w:World,Calls Tryz.prog 44 #[] w fun e w'=>e=.returned (.bool true)∧Below w.heap.size w w'):=awake13_c
  have BB:Hid (Below W.heap.size W W):=Below.refl _ _
  obtain ⟨rfl,he⟩:=he
  rcases he with rfl|rfl
  all_goals
    go_enter Tryz.func12,Tryz.ntmps12
    go_wp2_with (first
      | (go_at_call 44;refine (HA.out _).mono ?_;rintro e w1 ⟨rfl,hb⟩;have nxd:=kp6 (n:=W.heap.size) hb;(try clear nxB nx0 nx1 nx2 nx3 nx4 nx5 nxf nxL nxN);obtain ⟨nxB,nx0,nx1,nx2,nx3,nx4,nx5,nxf,nxL,nxN⟩:=nxd;have q1:W.heap.size<w1.heap.size:=nxL;have BB2:Below W.heap.size W w1:=bstep (by repeat (first|refine Below.setCell ?_ (by simp;try omega) _|refine Below.alloc ?_ (by have:=BB.out.size;simp;try omega) _|refine Below.drew ?_|exact BB.out)) hb;clear BB;have BB:Hid (Below W.heap.size W w1):=BB2;clear BB2;clear hb HA)
      | (go_at_call 45;refine (HB.out _ BB.out).mono ?_;rintro e w2 ⟨⟨b,rfl,hw⟩,hb⟩;have HH:Hid (WN w1.heap.size w2.heap.size b ps w2):=hw;have nxd:=kp6 (n:=W.heap.size) hb;(try clear nxB nx0 nx1 nx2 nx3 nx4 nx5 nxf nxL nxN);obtain ⟨nxB,nx0,nx1,nx2,nx3,nx4,nx5,nxf,nxL,nxN⟩:=nxd;have BB2:Below W.heap.size W w2:=bstep (by repeat (first|refine Below.setCell ?_ (by simp;try omega) _|refine Below.alloc ?_ (by have:=BB.out.size;simp;try omega) _|refine Below.drew ?_|exact BB.out)) hb;clear BB;have BB:Hid (Below W.heap.size W w2):=BB2;clear BB2;clear hb HB hw)
      | (go_at_call 46;refine (HD.out _ _ HH.out.wat).mono ?_;rintro e w3 ⟨⟨vo,rfl,ho⟩,hb⟩;obtain ⟨x1,x2,rfl⟩:=ownv ho;have O3:Hid (w3.ownsRow w2.heap.size 86 4 (.slice x1 0 x2) 0 (flat4 T)):=ho;have q2:w2.heap.size≤w3.heap.size:=hb.size;have nxd:=kp6 (n:=W.heap.size) hb;(try clear nxB nx0 nx1 nx2 nx3 nx4 nx5 nxf nxL nxN);obtain ⟨nxB,nx0,nx1,nx2,nx3,nx4,nx5,nxf,nxL,nxN⟩:=nxd;have HH2:=HH.out.below hb;clear HH;have HH:Hid (WN w1.heap.size w2.heap.size b ps w3):=HH2;clear HH2;have BB2:Below W.heap.size W w3:=bstep (by repeat (first|refine Below.setCell ?_ (by simp;try omega) _|refine Below.alloc ?_ (by have:=BB.out.size;simp;try omega) _|refine Below.drew ?_|exact BB.out)) hb;clear BB;have BB:Hid (Below W.heap.size W w3):=BB2;clear BB2;clear hb HD ho))
  all_goals go_ret
  all_goals exact ⟨retB (by simp [*]),(by repeat (first|refine Below.setCell ?_ (by simp;try omega) _|refine Below.alloc ?_ (by have:=BB.out.size;simp;try omega) _|refine Below.drew ?_|exact BB.out))⟩
set_option maxHeartbeats 16000000 in
theorem vgr_2 (ps ps2:List Plc) (W:World) (v:Value) (c:Cls) (ai:Option Addr) (ni ci:Nat) (am:Option Addr) (nm cm:Nat) (id:Int) (T:List Sl) (n:Nat) (HTn:Hid (T.length=n)) (hn:n≤1000000000) (HB:Hid (∀ w:World,Below W.heap.size W w→Calls Tryz.prog 45 #[v] w fun e w'=>(∃ b,e=.returned (.pointer (some ⟨b,0,none⟩))∧WN w.heap.size w'.heap.size b ps w')∧Below w.heap.size w w')) (HD:Hid (∀ b w,WAt b ps w→Calls Tryz.prog 46 #[.pointer (some ⟨b,0,none⟩),.int .i64 id] w fun e w'=>(∃ v,e=.returned (.tuple #[v,.int .i64 0])∧w'.ownsRow w.heap.size 86 4 v n (flat4 T))∧Below w.heap.size w w')) (HU:Hid (∀ b w,WAt b ps w→Calls Tryz.prog 58 #[.pointer (some ⟨b,0,none⟩),.int .i64 id] w fun e w'=>e=.returned (.tuple #[.int .i64 0,.int .i64 6])∧w'=w)) (HOv:Hid (∀ x∈T,∀ b w,WAt b ps w→Calls Tryz.prog 20 #[.pointer (some ⟨b,0,none⟩),.agg #[.int .i64 x.2.1,.int .i64 x.2.2],.agg #[.int .i64 x.1.1,.int .i64 x.1.2]] w fun e w'=>e=.returned (.tuple #[.bool true,.int .i64 0])∧Below w.heap.size w w')) (HX:Hid (∀ x∈T,∀ b w,WAt b ps w→Calls Tryz.prog 57 #[.pointer (some ⟨b,0,none⟩),.int .i64 id,.int .i64 x.2.1] w fun e w'=>e=.returned (.bool true)∧Below w.heap.size w w')) (HND:Hid (∀ (i j:Nat) (x y:Sl),j<i→T[i]?=some x→T[j]?=some y→((x.1.1 == y.1.1)&&(x.1.2 == y.1.2))=false)) (HDf:Hid (∀ n0 z0 b w,WN n0 z0 b ps w→Below W.heap.size W w→Calls Tryz.prog 29 #[.pointer (some ⟨b,0,none⟩),.agg #[.string c.nm,.string c.su,.slice ai ni ci,.int .i64 c.fl,.int .i64 c.ld,.slice am nm cm]] w fun e w'=>(∃ u,e=.returned u)∧WAt b ps2 w'∧KeepN n0 z0 w w')) (HD3:Hid (∀ b w,WAt b ps2 w→Calls Tryz.prog 46 #[.pointer (some ⟨b,0,none⟩),.int .i64 id] w fun e w'=>(∃ v,e=.returned (.tuple #[v,.int .i64 0])∧w'.ownsRow w.heap.size 86 4 v n (flat4 T))∧Below w.heap.size w w')) (SS:Hid (∀ (N1 N2:Nat) (v1 v2:Value) (w:World),w.ownsRow N1 86 4 v1 n (flat4 T)→w.ownsRow N2 86 4 v2 n (flat4 T)→Calls Tryz.prog 50 #[v1,v2] w fun e w'=>e=.returned (.bool true)∧Below w.heap.size w w'))  : Calls Tryz.prog 12 #[v,.agg #[.string c.nm,.string c.su,.slice ai ni ci,.int .i64 c.fl,.int .i64 c.ld,.slice am nm cm],.int .i64 id] W fun e w'=>e=.returned (.bool true)∧Below W.heap.size W w':=by
  have HA:Hid (∀ w:World,Calls Tryz.prog 44 #[] w fun e w'=>e=.returned (.bool true)∧Below w.heap.size w w'):=awake13_c
  have BB:Hid (Below W.heap.size W W):=Below.refl _ _
  go_enter Tryz.func12,Tryz.ntmps12
  go_wp2_with (first
    | (go_at_call 44;refine (HA.out _).mono ?_;rintro e w1 ⟨rfl,hb⟩;have nxd:=kp6 (n:=W.heap.size) hb;(try clear nxB nx0 nx1 nx2 nx3 nx4 nx5 nxf nxL nxN);obtain ⟨nxB,nx0,nx1,nx2,nx3,nx4,nx5,nxf,nxL,nxN⟩:=nxd;have q1:W.heap.size<w1.heap.size:=nxL;have BB2:Below W.heap.size W w1:=bstep (by repeat (first|refine Below.setCell ?_ (by simp;try omega) _|refine Below.alloc ?_ (by have:=BB.out.size;simp;try omega) _|refine Below.drew ?_|exact BB.out)) hb;clear BB;have BB:Hid (Below W.heap.size W w1):=BB2;clear BB2;clear hb HA)
    | (go_at_call 45;refine (HB.out _ BB.out).mono ?_;rintro e w2 ⟨⟨b,rfl,hw⟩,hb⟩;have HH:Hid (WN w1.heap.size w2.heap.size b ps w2):=hw;have nxd:=kp6 (n:=W.heap.size) hb;(try clear nxB nx0 nx1 nx2 nx3 nx4 nx5 nxf nxL nxN);obtain ⟨nxB,nx0,nx1,nx2,nx3,nx4,nx5,nxf,nxL,nxN⟩:=nxd;have BB2:Below W.heap.size W w2:=bstep (by repeat (first|refine Below.setCell ?_ (by simp;try omega) _|refine Below.alloc ?_ (by have:=BB.out.size;simp;try omega) _|refine Below.drew ?_|exact BB.out)) hb;clear BB;have BB:Hid (Below W.heap.size W w2):=BB2;clear BB2;clear hb HB hw)
    | (go_at_call 46;refine (HD.out _ _ HH.out.wat).mono ?_;rintro e w3 ⟨⟨vo,rfl,ho⟩,hb⟩;obtain ⟨x1,x2,rfl⟩:=ownv ho;have O3:Hid (w3.ownsRow w2.heap.size 86 4 (.slice x1 n x2) n (flat4 T)):=ho;have q2:w2.heap.size≤w3.heap.size:=hb.size;have nxd:=kp6 (n:=W.heap.size) hb;(try clear nxB nx0 nx1 nx2 nx3 nx4 nx5 nxf nxL nxN);obtain ⟨nxB,nx0,nx1,nx2,nx3,nx4,nx5,nxf,nxL,nxN⟩:=nxd;have HH2:=HH.out.below hb;clear HH;have HH:Hid (WN w1.heap.size w2.heap.size b ps w3):=HH2;clear HH2;have BB2:Below W.heap.size W w3:=bstep (by repeat (first|refine Below.setCell ?_ (by simp;try omega) _|refine Below.alloc ?_ (by have:=BB.out.size;simp;try omega) _|refine Below.drew ?_|exact BB.out)) hb;clear BB;have BB:Hid (Below W.heap.size W w3):=BB2;clear BB2;clear hb HD ho)
    | (go_at_call 58;refine (HU.out _ _ HH.out.wat).mono ?_;rintro e w9 ⟨rfl,hw9⟩;rw [hw9];clear hw9 w9 HU))
  obtain ⟨σ,V,hne,V1,V2⟩:=class_of' (fun w'=>Below w3.heap.size w3 w') ⟨_,Below.refl _ _⟩
  have HWV:Hid (∀ w',Below w3.heap.size w3 w'→WN w1.heap.size w2.heap.size b ps w'):=fun w' hb=>HH.out.below hb
  go_loopw [15] (fun kv wr=>∃ (i:Nat),kv=.int .i64 i∧i≤n∧Hid (Below w3.heap.size w3 wr)) (fun kv _=>n - (intOf kv).toNat)
  case atStart=>exact ⟨0,rfl,Nat.zero_le _,Below.refl _ _⟩
  case round =>
    obtain ⟨i,rfl,hi,hB⟩:=hrel
    by_cases hlt:i<n
    · have hiI:(i:Int)<(n:Int):=by omega
      obtain ⟨x,hx⟩:∃ x,T[i]?=some x:=⟨_,List.getElem?_eq_getElem (by rw [HTn.out];exact hlt)⟩
      have HOi:=HOv.out x (List.mem_of_getElem? hx)
      have HXi:=HX.out x (List.mem_of_getElem? hx)
      obtain ⟨⟨R1,R2⟩,⟨m1,m2⟩⟩:=x
      obtain ⟨g1,d1,hf1,_,hgl1,q5⟩:=own_atS O3.out (by omega)
      injection hf1 with ha1 _ hc1
      subst ha1 hc1
      have e0:∀ s,(V s).cell? ⟨g1,i * 4,none⟩=some (.int .i64 R1):=fun s=>((V1.out s).cell (p:=⟨g1,i * 4,none⟩) hgl1).trans (q5 _ _ ((flat4_at T i _ 0 hx (by decide)).trans rfl))
      have e1:∀ s,(V s).cell? ⟨g1,i * 4+1,none⟩=some (.int .i64 R2):=fun s=>((V1.out s).cell (p:=⟨g1,i * 4+1,none⟩) hgl1).trans (q5 _ _ ((flat4_at T i _ 1 hx (by decide)).trans rfl))
      have e2:∀ s,(V s).cell? ⟨g1,i * 4+2,none⟩=some (.int .i64 m1):=fun s=>((V1.out s).cell (p:=⟨g1,i * 4+2,none⟩) hgl1).trans (q5 _ _ ((flat4_at T i _ 2 hx (by decide)).trans rfl))
      have e3:∀ s,(V s).cell? ⟨g1,i * 4+3,none⟩=some (.int .i64 m2):=fun s=>((V1.out s).cell (p:=⟨g1,i * 4+3,none⟩) hgl1).trans (q5 _ _ ((flat4_at T i _ 3 hx (by decide)).trans rfl))
      have HO:Hid (∀ s,Calls Tryz.prog 20 #[.pointer (some ⟨b,0,none⟩),.agg #[.int .i64 m1,.int .i64 m2],.agg #[.int .i64 R1,.int .i64 R2]] (V s) fun e w''=>e=.returned (.tuple #[.bool true,.int .i64 0])∧∃ s',w''=V s'):=fun s=>(HOi b _ (HWV.out _ (V1.out s)).wat).mono fun e w' zz=>⟨zz.1,V2.out _ (bstep (V1.out s) zz.2)⟩
      have HE2:Hid (∀ w,Below w3.heap.size w3 w→Calls Tryz.prog 57 #[.pointer (some ⟨b,0,none⟩),.int .i64 id,.int .i64 m1] w fun e w'=>e=.returned (.bool true)∧Below w.heap.size w w'):=fun w hb=>HXi b w (HWV.out _ hb).wat
      have HQA:Hid (∀ (j:Nat) (y:Sl),j<i→T[j]?=some y→∀ s,Calls Tryz.prog 24 #[.agg #[.int .i64 R1,.int .i64 R2],.agg #[.int .i64 y.1.1,.int .i64 y.1.2]] (V s) fun e w''=>e=.returned (.bool false)∧∃ s',w''=V s'):=fun j y hj hy s=>(sameID_c (R1,R2) y.1 (V s)).mono fun e w' zz=>⟨by rw [zz.1,HND.out i j _ y hj hx hy],V2.out _ (bstep (V1.out s) zz.2)⟩
      have HQ5:Hid (∀ (j:Nat) (u:Value),(flat4 T)[j]?=some u→w3.cell? ⟨g1,j,none⟩=some u):=q5
      have hm2:(flat4 T)[i * 4+2]?=some (.int .i64 m1):=(flat4_at T i _ 2 hx (by decide)).trans rfl
      clear hx q5 HOi HXi HOv HX HND SS
      go_wp2
      refine wp_region_class (C:=fun w'=>∃ s,w'=V s) (by kernel_rfl) (by kernel_rfl) (V2.out _ (hB.out.drew)) ?_
      repeat (go_big_quiet_step (first|(go_at_call 20;exact HO.out _)))
      refine wpQuiet_nil ?_
      intro w9 hw9
      obtain ⟨s9,hw9⟩:=hw9
      have B9:Hid (Below w3.heap.size w3 w9):=by rw [hw9];exact V1.out s9
      clear hw9 hB
      have c9:=(B9.out.cell (p:=⟨g1,i * 4+2,none⟩) hgl1).trans (HQ5.out _ _ hm2)
      go_wp2_with (go_at_call 57;refine (HE2.out _ B9.out).mono ?_;rintro e w8 ⟨rfl,hb⟩;have B8:Hid (Below w3.heap.size w3 w8):=bstep B9.out hb;clear hb HE2 B9 c9 hm2)
      go_loopw [18] (fun kv wr=>∃ (j:Nat),kv=.int .i64 j∧j≤i∧Hid (Below w3.heap.size w3 wr)) (fun kv _=>i - (intOf kv).toNat)
      case atStart=>exact ⟨0,rfl,Nat.zero_le _,B8⟩
      case round =>
        clear B8
        obtain ⟨j,rfl,hj,hB⟩:=hrel
        by_cases hlj:j<i
        · have hjI:(j:Int)<(i:Int):=by omega
          have hjI2:(j:Int)<(n:Int):=by omega
          obtain ⟨y,hy⟩:∃ y,T[j]?=some y:=⟨_,List.getElem?_eq_getElem (by rw [HTn.out];omega)⟩
          have HQ0:=HQA.out j y hlj hy
          obtain ⟨⟨S1,S2⟩,⟨k1,k2⟩⟩:=y
          have HQ:Hid (∀ s,Calls Tryz.prog 24 #[.agg #[.int .i64 R1,.int .i64 R2],.agg #[.int .i64 S1,.int .i64 S2]] (V s) fun e w''=>e=.returned (.bool false)∧∃ s',w''=V s'):=HQ0
          have f0:∀ s,(V s).cell? ⟨g1,j * 4,none⟩=some (.int .i64 S1):=fun s=>((V1.out s).cell (p:=⟨g1,j * 4,none⟩) hgl1).trans (HQ5.out _ _ ((flat4_at T j _ 0 hy (by decide)).trans rfl))
          have f1:∀ s,(V s).cell? ⟨g1,j * 4+1,none⟩=some (.int .i64 S2):=fun s=>((V1.out s).cell (p:=⟨g1,j * 4+1,none⟩) hgl1).trans (HQ5.out _ _ ((flat4_at T j _ 1 hy (by decide)).trans rfl))
          clear HQ0 HQA hy HQ5 HWV HTn
          go_wp2
          refine wp_region_class (C:=fun w'=>∃ s,w'=V s) (by kernel_rfl) (by kernel_rfl) (V2.out _ (hB.out.drew)) ?_
          repeat (go_big_quiet_step (first|(go_at_call 24;exact HQ.out _)))
          refine wpQuiet_nil ?_
          intro w9 hw9
          obtain ⟨s9,hw9⟩:=hw9
          have B9:Hid (Below w3.heap.size w3 w9):=by rw [hw9];exact V1.out s9
          clear hw9 hB
          go_wp2
          go_roundw
          case rel=>exact ⟨j+1,by go_num,by omega,B9⟩
          case measure=>simp [intOf];omega
        · have e:j=i:=by omega
          subst e
          go_wp2
          go_roundw
          case rel=>exact ⟨j+1,by go_num,by omega,hB⟩
          case measure=>simp [intOf];omega
    · have e:i=n:=by omega
      subst e
      have HH2:=HWV.out _ hB.out
      have O5:Hid (wr.ownsRow w2.heap.size 86 4 (.slice x1 i x2) i (flat4 T)):=rowBelow O3.out hB.out
      clear HH HWV HOv HX HND
      have HH:Hid (WN w1.heap.size w2.heap.size b ps wr):=HH2
      have hb:=hB.out
      have nxd:=kp6 (n:=W.heap.size) hb
      (try clear nxB nx0 nx1 nx2 nx3 nx4 nx5 nxf nxL nxN)
      obtain ⟨nxB,nx0,nx1,nx2,nx3,nx4,nx5,nxf,nxL,nxN⟩:=nxd
      have BB2:Below W.heap.size W wr:=bstep BB.out hb
      clear BB
      have BB:Hid (Below W.heap.size W wr):=BB2
      clear BB2 hb hB HH2 O3 V1 V2
      go_wp2_with (first
        | (go_at_call 29;refine (HDf.out _ _ _ _ HH.out BB.out).mono ?_;rintro e w5 ⟨⟨u4,rfl⟩,hw,hb⟩;have HG:Hid (WAt b ps2 w5):=hw;have O6:Hid (w5.ownsRow w2.heap.size 86 4 (.slice x1 i x2) i (flat4 T)):=rowKeepN O5.out (Nat.le_refl _) hb;have BB2:Below W.heap.size W w5:=BB.out.trans (hb.bel.mono (by omega));clear BB;have BB:Hid (Below W.heap.size W w5):=BB2;clear BB2;clear hb hw HDf HH O5 nxB nx0 nx1 nx2 nx3 nx4 nx5 nxf nxL nxN)
        | (go_at_call 46;refine (HD3.out _ _ HG.out).mono ?_;rintro e w6 ⟨⟨vo3,rfl,ho⟩,hb⟩;obtain ⟨z1,z2,rfl⟩:=ownv ho;have O8:Hid (w6.ownsRow w5.heap.size 86 4 (.slice z1 i z2) i (flat4 T)):=ho;have O7:Hid (w6.ownsRow w2.heap.size 86 4 (.slice x1 i x2) i (flat4 T)):=rowBelow O6.out hb;have BB2:Below W.heap.size W w6:=bstep (by repeat (first|refine Below.setCell ?_ (by simp;try omega) _|refine Below.alloc ?_ (by have:=BB.out.size;simp;try omega) _|refine Below.drew ?_|exact BB.out)) hb;clear BB;have BB:Hid (Below W.heap.size W w6):=BB2;clear BB2;clear hb HD3 ho HG O6)
        | (go_at_call 50;refine (SS.out _ _ _ _ _ O7.out O8.out).mono ?_;rintro e w7 ⟨rfl,hb⟩;have BB2:Below W.heap.size W w7:=bstep (by repeat (first|refine Below.setCell ?_ (by simp;try omega) _|refine Below.alloc ?_ (by have:=BB.out.size;simp;try omega) _|refine Below.drew ?_|exact BB.out)) hb;clear BB;have BB:Hid (Below W.heap.size W w7):=BB2;clear BB2;clear hb SS O7 O8))
      all_goals go_ret
      all_goals exact ⟨retB (by simp [*]),(by repeat (first|refine Below.setCell ?_ (by simp;try omega) _|refine Below.alloc ?_ (by have:=BB.out.size;simp;try omega) _|refine Below.drew ?_|exact BB.out))⟩
set_option maxHeartbeats 16000000 in
theorem vgr_3 (ps ps2:List Plc) (W:World) (v:Value) (c:Cls) (ai:Option Addr) (ni ci:Nat) (am:Option Addr) (nm cm:Nat) (id:Int) (T:List Sl) (n:Nat) (HTn:Hid (T.length=n)) (hn:n≤1000000000) (su:Int) (T0:List Sl) (n0:Nat) (HT0:Hid (T0.length=n0)) (hn0:n0≤n) (HPX:Hid (∀ (i:Nat) (x y:Sl),T0[i]?=some x→T[i]?=some y→x.1=y.1)) (HB:Hid (∀ w:World,Below W.heap.size W w→Calls Tryz.prog 45 #[v] w fun e w'=>(∃ b,e=.returned (.pointer (some ⟨b,0,none⟩))∧WN w.heap.size w'.heap.size b ps w')∧Below w.heap.size w w')) (HD:Hid (∀ b w,WAt b ps w→Calls Tryz.prog 46 #[.pointer (some ⟨b,0,none⟩),.int .i64 id] w fun e w'=>(∃ v,e=.returned (.tuple #[v,.int .i64 0])∧w'.ownsRow w.heap.size 86 4 v n (flat4 T))∧Below w.heap.size w w')) (HU:Hid (∀ b w,WAt b ps w→Calls Tryz.prog 58 #[.pointer (some ⟨b,0,none⟩),.int .i64 id] w fun e w'=>e=.returned (.tuple #[.int .i64 su,.int .i64 0])∧w'=w)) (HE:Hid (∀ b w,WAt b ps w→Calls Tryz.prog 46 #[.pointer (some ⟨b,0,none⟩),.int .i64 su] w fun e w'=>(∃ v,e=.returned (.tuple #[v,.int .i64 0])∧w'.ownsRow w.heap.size 86 4 v n0 (flat4 T0))∧Below w.heap.size w w')) (HOv:Hid (∀ x∈T,∀ b w,WAt b ps w→Calls Tryz.prog 20 #[.pointer (some ⟨b,0,none⟩),.agg #[.int .i64 x.2.1,.int .i64 x.2.2],.agg #[.int .i64 x.1.1,.int .i64 x.1.2]] w fun e w'=>e=.returned (.tuple #[.bool true,.int .i64 0])∧Below w.heap.size w w')) (HX:Hid (∀ x∈T,∀ b w,WAt b ps w→Calls Tryz.prog 57 #[.pointer (some ⟨b,0,none⟩),.int .i64 id,.int .i64 x.2.1] w fun e w'=>e=.returned (.bool true)∧Below w.heap.size w w')) (HND:Hid (∀ (i j:Nat) (x y:Sl),j<i→T[i]?=some x→T[j]?=some y→((x.1.1 == y.1.1)&&(x.1.2 == y.1.2))=false)) (HDf:Hid (∀ n0 z0 b w,WN n0 z0 b ps w→Below W.heap.size W w→Calls Tryz.prog 29 #[.pointer (some ⟨b,0,none⟩),.agg #[.string c.nm,.string c.su,.slice ai ni ci,.int .i64 c.fl,.int .i64 c.ld,.slice am nm cm]] w fun e w'=>(∃ u,e=.returned u)∧WAt b ps2 w'∧KeepN n0 z0 w w')) (HD3:Hid (∀ b w,WAt b ps2 w→Calls Tryz.prog 46 #[.pointer (some ⟨b,0,none⟩),.int .i64 id] w fun e w'=>(∃ v,e=.returned (.tuple #[v,.int .i64 0])∧w'.ownsRow w.heap.size 86 4 v n (flat4 T))∧Below w.heap.size w w')) (SS:Hid (∀ (N1 N2:Nat) (v1 v2:Value) (w:World),w.ownsRow N1 86 4 v1 n (flat4 T)→w.ownsRow N2 86 4 v2 n (flat4 T)→Calls Tryz.prog 50 #[v1,v2] w fun e w'=>e=.returned (.bool true)∧Below w.heap.size w w'))  : Calls Tryz.prog 12 #[v,.agg #[.string c.nm,.string c.su,.slice ai ni ci,.int .i64 c.fl,.int .i64 c.ld,.slice am nm cm],.int .i64 id] W fun e w'=>e=.returned (.bool true)∧Below W.heap.size W w':=by
  have HA:Hid (∀ w:World,Calls Tryz.prog 44 #[] w fun e w'=>e=.returned (.bool true)∧Below w.heap.size w w'):=awake13_c
  have BB:Hid (Below W.heap.size W W):=Below.refl _ _
  have hn0I:¬ (n:Int)<(n0:Int):=by omega
  have hn0N:¬ n<n0:=by omega
  have hn0d:decide (n<n0)=false:=by simp;omega
  have hn0e:decide ((n:Int)<(n0:Int))=false:=by simp;omega
  go_enter Tryz.func12,Tryz.ntmps12
  go_wp2_with (first
    | (go_at_call 44;refine (HA.out _).mono ?_;rintro e w1 ⟨rfl,hb⟩;have nxd:=kp6 (n:=W.heap.size) hb;(try clear nxB nx0 nx1 nx2 nx3 nx4 nx5 nxf nxL nxN);obtain ⟨nxB,nx0,nx1,nx2,nx3,nx4,nx5,nxf,nxL,nxN⟩:=nxd;have q1:W.heap.size<w1.heap.size:=nxL;have BB2:Below W.heap.size W w1:=bstep (by repeat (first|refine Below.setCell ?_ (by simp;try omega) _|refine Below.alloc ?_ (by have:=BB.out.size;simp;try omega) _|refine Below.drew ?_|exact BB.out)) hb;clear BB;have BB:Hid (Below W.heap.size W w1):=BB2;clear BB2;clear hb HA)
    | (go_at_call 45;refine (HB.out _ BB.out).mono ?_;rintro e w2 ⟨⟨b,rfl,hw⟩,hb⟩;have HH:Hid (WN w1.heap.size w2.heap.size b ps w2):=hw;have nxd:=kp6 (n:=W.heap.size) hb;(try clear nxB nx0 nx1 nx2 nx3 nx4 nx5 nxf nxL nxN);obtain ⟨nxB,nx0,nx1,nx2,nx3,nx4,nx5,nxf,nxL,nxN⟩:=nxd;have BB2:Below W.heap.size W w2:=bstep (by repeat (first|refine Below.setCell ?_ (by simp;try omega) _|refine Below.alloc ?_ (by have:=BB.out.size;simp;try omega) _|refine Below.drew ?_|exact BB.out)) hb;clear BB;have BB:Hid (Below W.heap.size W w2):=BB2;clear BB2;clear hb HB hw)
    | (go_at_call 46;refine (HD.out _ _ HH.out.wat).mono ?_;rintro e w3 ⟨⟨vo,rfl,ho⟩,hb⟩;obtain ⟨x1,x2,rfl⟩:=ownv ho;have O3:Hid (w3.ownsRow w2.heap.size 86 4 (.slice x1 n x2) n (flat4 T)):=ho;have q2:w2.heap.size≤w3.heap.size:=hb.size;have nxd:=kp6 (n:=W.heap.size) hb;(try clear nxB nx0 nx1 nx2 nx3 nx4 nx5 nxf nxL nxN);obtain ⟨nxB,nx0,nx1,nx2,nx3,nx4,nx5,nxf,nxL,nxN⟩:=nxd;have HH2:=HH.out.below hb;clear HH;have HH:Hid (WN w1.heap.size w2.heap.size b ps w3):=HH2;clear HH2;have BB2:Below W.heap.size W w3:=bstep (by repeat (first|refine Below.setCell ?_ (by simp;try omega) _|refine Below.alloc ?_ (by have:=BB.out.size;simp;try omega) _|refine Below.drew ?_|exact BB.out)) hb;clear BB;have BB:Hid (Below W.heap.size W w3):=BB2;clear BB2;clear hb HD ho)
    | (go_at_call 58;refine (HU.out _ _ HH.out.wat).mono ?_;rintro e w9 ⟨rfl,hw9⟩;rw [hw9];clear hw9 w9 HU)
    | (go_at_call 46;refine (HE.out _ _ HH.out.wat).mono ?_;rintro e w4 ⟨⟨vo2,rfl,ho⟩,hb⟩;obtain ⟨y1,y2,rfl⟩:=ownv ho;have P4:Hid (w4.ownsRow w3.heap.size 86 4 (.slice y1 n0 y2) n0 (flat4 T0)):=ho;have O4:Hid (w4.ownsRow w2.heap.size 86 4 (.slice x1 n x2) n (flat4 T)):=rowBelow O3.out hb;have q3:w3.heap.size≤w4.heap.size:=hb.size;have nxd:=kp6 (n:=W.heap.size) hb;(try clear nxB nx0 nx1 nx2 nx3 nx4 nx5 nxf nxL nxN);obtain ⟨nxB,nx0,nx1,nx2,nx3,nx4,nx5,nxf,nxL,nxN⟩:=nxd;have HH2:=HH.out.below hb;clear HH;have HH:Hid (WN w1.heap.size w2.heap.size b ps w4):=HH2;clear HH2;have BB2:Below W.heap.size W w4:=bstep (by repeat (first|refine Below.setCell ?_ (by simp;try omega) _|refine Below.alloc ?_ (by have:=BB.out.size;simp;try omega) _|refine Below.drew ?_|exact BB.out)) hb;clear BB;have BB:Hid (Below W.heap.size W w4):=BB2;clear BB2;clear hb HE ho O3))
  obtain ⟨σ,V,hne,V1,V2⟩:=class_of' (fun w'=>Below w4.heap.size w4 w') ⟨_,Below.refl _ _⟩
  have HWV:Hid (∀ w',Below w4.heap.size w4 w'→WN w1.heap.size w2.heap.size b ps w'):=fun w' hb=>HH.out.below hb
  go_loopw [14] (fun kv wr=>∃ (i:Nat),kv=.int .i64 i∧i≤n0∧Hid (Below w4.heap.size w4 wr)) (fun kv _=>n0 - (intOf kv).toNat)
  case atStart=>exact ⟨0,rfl,Nat.zero_le _,Below.refl _ _⟩
  case round =>
    obtain ⟨i,rfl,hi,hB⟩:=hrel
    by_cases hlt:i<n0
    · have hiI:(i:Int)<(n0:Int):=by omega
      have hiI2:(i:Int)<(n:Int):=by omega
      obtain ⟨x,hx⟩:∃ x,T0[i]?=some x:=⟨_,List.getElem?_eq_getElem (by rw [HT0.out];exact hlt)⟩
      obtain ⟨y,hy⟩:∃ y,T[i]?=some y:=⟨_,List.getElem?_eq_getElem (by rw [HTn.out];omega)⟩
      have hxy:=HPX.out i x y hx hy
      obtain ⟨⟨R1,R2⟩,⟨m1,m2⟩⟩:=x
      obtain ⟨⟨S1,S2⟩,⟨k1,k2⟩⟩:=y
      injection hxy with h1 h2
      subst h1 h2
      obtain ⟨g0,d0,hf0,_,hgl0,q0⟩:=own_atS P4.out (by omega)
      obtain ⟨g1,d1,hf1,_,hgl1,q1⟩:=own_atS O4.out (by omega)
      injection hf0 with ha0 _ hc0
      injection hf1 with ha1 _ hc1
      subst ha0 hc0 ha1 hc1
      have e0:∀ s,(V s).cell? ⟨g0,i * 4,none⟩=some (.int .i64 R1):=fun s=>((V1.out s).cell (p:=⟨g0,i * 4,none⟩) hgl0).trans (q0 _ _ ((flat4_at T0 i _ 0 hx (by decide)).trans rfl))
      have e1:∀ s,(V s).cell? ⟨g0,i * 4+1,none⟩=some (.int .i64 R2):=fun s=>((V1.out s).cell (p:=⟨g0,i * 4+1,none⟩) hgl0).trans (q0 _ _ ((flat4_at T0 i _ 1 hx (by decide)).trans rfl))
      have f0:∀ s,(V s).cell? ⟨g1,i * 4,none⟩=some (.int .i64 R1):=fun s=>((V1.out s).cell (p:=⟨g1,i * 4,none⟩) hgl1).trans (q1 _ _ ((flat4_at T i _ 0 hy (by decide)).trans rfl))
      have f1:∀ s,(V s).cell? ⟨g1,i * 4+1,none⟩=some (.int .i64 R2):=fun s=>((V1.out s).cell (p:=⟨g1,i * 4+1,none⟩) hgl1).trans (q1 _ _ ((flat4_at T i _ 1 hy (by decide)).trans rfl))
      have HQ:Hid (∀ s,Calls Tryz.prog 24 #[.agg #[.int .i64 R1,.int .i64 R2],.agg #[.int .i64 R1,.int .i64 R2]] (V s) fun e w''=>e=.returned (.bool true)∧∃ s',w''=V s'):=fun s=>(sameID_c (R1,R2) (R1,R2) (V s)).mono fun e w' zz=>⟨by rw [zz.1];simp,V2.out _ (bstep (V1.out s) zz.2)⟩
      clear hx hy q0 q1 HWV HPX HT0 HTn SS HOv HX
      go_wp2
      refine wp_region_class (C:=fun w'=>∃ s,w'=V s) (by kernel_rfl) (by kernel_rfl) (V2.out _ (hB.out.drew)) ?_
      repeat (go_big_quiet_step (first|(go_at_call 24;exact HQ.out _)))
      refine wpQuiet_nil ?_
      intro w9 hw9
      obtain ⟨s9,hw9⟩:=hw9
      have B9:Hid (Below w4.heap.size w4 w9):=by rw [hw9];exact V1.out s9
      clear hw9 hB
      go_wp2
      go_roundw
      case rel=>exact ⟨i+1,by go_num,by omega,B9⟩
      case measure=>simp [intOf];omega
    · have e:i=n0:=by omega
      subst e
      clear HT0 HPX P4
      go_wp2
      go_loopw [15] (fun kv wr=>∃ (i:Nat),kv=.int .i64 i∧i≤n∧Hid (Below w4.heap.size w4 wr)) (fun kv _=>n - (intOf kv).toNat)
      case atStart=>exact ⟨0,rfl,Nat.zero_le _,hB⟩
      case round =>
        obtain ⟨i,rfl,hi,hB⟩:=hrel
        by_cases hlt:i<n
        · have hiI:(i:Int)<(n:Int):=by omega
          obtain ⟨x,hx⟩:∃ x,T[i]?=some x:=⟨_,List.getElem?_eq_getElem (by rw [HTn.out];exact hlt)⟩
          have HOi:=HOv.out x (List.mem_of_getElem? hx)
          have HXi:=HX.out x (List.mem_of_getElem? hx)
          obtain ⟨⟨R1,R2⟩,⟨m1,m2⟩⟩:=x
          obtain ⟨g1,d1,hf1,_,hgl1,q5⟩:=own_atS O4.out (by omega)
          injection hf1 with ha1 _ hc1
          subst ha1 hc1
          have e0:∀ s,(V s).cell? ⟨g1,i * 4,none⟩=some (.int .i64 R1):=fun s=>((V1.out s).cell (p:=⟨g1,i * 4,none⟩) hgl1).trans (q5 _ _ ((flat4_at T i _ 0 hx (by decide)).trans rfl))
          have e1:∀ s,(V s).cell? ⟨g1,i * 4+1,none⟩=some (.int .i64 R2):=fun s=>((V1.out s).cell (p:=⟨g1,i * 4+1,none⟩) hgl1).trans (q5 _ _ ((flat4_at T i _ 1 hx (by decide)).trans rfl))
          have e2:∀ s,(V s).cell? ⟨g1,i * 4+2,none⟩=some (.int .i64 m1):=fun s=>((V1.out s).cell (p:=⟨g1,i * 4+2,none⟩) hgl1).trans (q5 _ _ ((flat4_at T i _ 2 hx (by decide)).trans rfl))
          have e3:∀ s,(V s).cell? ⟨g1,i * 4+3,none⟩=some (.int .i64 m2):=fun s=>((V1.out s).cell (p:=⟨g1,i * 4+3,none⟩) hgl1).trans (q5 _ _ ((flat4_at T i _ 3 hx (by decide)).trans rfl))
          have HO:Hid (∀ s,Calls Tryz.prog 20 #[.pointer (some ⟨b,0,none⟩),.agg #[.int .i64 m1,.int .i64 m2],.agg #[.int .i64 R1,.int .i64 R2]] (V s) fun e w''=>e=.returned (.tuple #[.bool true,.int .i64 0])∧∃ s',w''=V s'):=fun s=>(HOi b _ (HWV.out _ (V1.out s)).wat).mono fun e w' zz=>⟨zz.1,V2.out _ (bstep (V1.out s) zz.2)⟩
          have HE2:Hid (∀ w,Below w4.heap.size w4 w→Calls Tryz.prog 57 #[.pointer (some ⟨b,0,none⟩),.int .i64 id,.int .i64 m1] w fun e w'=>e=.returned (.bool true)∧Below w.heap.size w w'):=fun w hb=>HXi b w (HWV.out _ hb).wat
          have HQA:Hid (∀ (j:Nat) (y:Sl),j<i→T[j]?=some y→∀ s,Calls Tryz.prog 24 #[.agg #[.int .i64 R1,.int .i64 R2],.agg #[.int .i64 y.1.1,.int .i64 y.1.2]] (V s) fun e w''=>e=.returned (.bool false)∧∃ s',w''=V s'):=fun j y hj hy s=>(sameID_c (R1,R2) y.1 (V s)).mono fun e w' zz=>⟨by rw [zz.1,HND.out i j _ y hj hx hy],V2.out _ (bstep (V1.out s) zz.2)⟩
          have HQ5:Hid (∀ (j:Nat) (u:Value),(flat4 T)[j]?=some u→w4.cell? ⟨g1,j,none⟩=some u):=q5
          have hm2:(flat4 T)[i * 4+2]?=some (.int .i64 m1):=(flat4_at T i _ 2 hx (by decide)).trans rfl
          clear hx q5 HOi HXi HOv HX HND SS
          go_wp2
          refine wp_region_class (C:=fun w'=>∃ s,w'=V s) (by kernel_rfl) (by kernel_rfl) (V2.out _ (hB.out.drew)) ?_
          repeat (go_big_quiet_step (first|(go_at_call 20;exact HO.out _)))
          refine wpQuiet_nil ?_
          intro w9 hw9
          obtain ⟨s9,hw9⟩:=hw9
          have B9:Hid (Below w4.heap.size w4 w9):=by rw [hw9];exact V1.out s9
          clear hw9 hB
          have c9:=(B9.out.cell (p:=⟨g1,i * 4+2,none⟩) hgl1).trans (HQ5.out _ _ hm2)
          go_wp2_with (go_at_call 57;refine (HE2.out _ B9.out).mono ?_;rintro e w8 ⟨rfl,hb⟩;have B8:Hid (Below w4.heap.size w4 w8):=bstep B9.out hb;clear hb HE2 B9 c9 hm2)
          go_loopw [18] (fun kv wr=>∃ (j:Nat),kv=.int .i64 j∧j≤i∧Hid (Below w4.heap.size w4 wr)) (fun kv _=>i - (intOf kv).toNat)
          case atStart=>exact ⟨0,rfl,Nat.zero_le _,B8⟩
          case round =>
            clear B8
            obtain ⟨j,rfl,hj,hB⟩:=hrel
            by_cases hlj:j<i
            · have hjI:(j:Int)<(i:Int):=by omega
              have hjI2:(j:Int)<(n:Int):=by omega
              obtain ⟨y,hy⟩:∃ y,T[j]?=some y:=⟨_,List.getElem?_eq_getElem (by rw [HTn.out];omega)⟩
              have HQ0:=HQA.out j y hlj hy
              obtain ⟨⟨S1,S2⟩,⟨k1,k2⟩⟩:=y
              have HQ:Hid (∀ s,Calls Tryz.prog 24 #[.agg #[.int .i64 R1,.int .i64 R2],.agg #[.int .i64 S1,.int .i64 S2]] (V s) fun e w''=>e=.returned (.bool false)∧∃ s',w''=V s'):=HQ0
              have f0:∀ s,(V s).cell? ⟨g1,j * 4,none⟩=some (.int .i64 S1):=fun s=>((V1.out s).cell (p:=⟨g1,j * 4,none⟩) hgl1).trans (HQ5.out _ _ ((flat4_at T j _ 0 hy (by decide)).trans rfl))
              have f1:∀ s,(V s).cell? ⟨g1,j * 4+1,none⟩=some (.int .i64 S2):=fun s=>((V1.out s).cell (p:=⟨g1,j * 4+1,none⟩) hgl1).trans (HQ5.out _ _ ((flat4_at T j _ 1 hy (by decide)).trans rfl))
              clear HQ0 HQA hy HQ5 HWV HTn
              go_wp2
              refine wp_region_class (C:=fun w'=>∃ s,w'=V s) (by kernel_rfl) (by kernel_rfl) (V2.out _ (hB.out.drew)) ?_
              repeat (go_big_quiet_step (first|(go_at_call 24;exact HQ.out _)))
              refine wpQuiet_nil ?_
              intro w9 hw9
              obtain ⟨s9,hw9⟩:=hw9
              have B9:Hid (Below w4.heap.size w4 w9):=by rw [hw9];exact V1.out s9
              clear hw9 hB
              go_wp2
              go_roundw
              case rel=>exact ⟨j+1,by go_num,by omega,B9⟩
              case measure=>simp [intOf];omega
            · have e:j=i:=by omega
              subst e
              go_wp2
              go_roundw
              case rel=>exact ⟨j+1,by go_num,by omega,hB⟩
              case measure=>simp [intOf];omega
        · have e:i=n:=by omega
          subst e
          have HH2:=HWV.out _ hB.out
          have O5:Hid (wr.ownsRow w2.heap.size 86 4 (.slice x1 i x2) i (flat4 T)):=rowBelow O4.out hB.out
          clear HH HWV HOv HX HND
          have HH:Hid (WN w1.heap.size w2.heap.size b ps wr):=HH2
          have hb:=hB.out
          have nxd:=kp6 (n:=W.heap.size) hb
          (try clear nxB nx0 nx1 nx2 nx3 nx4 nx5 nxf nxL nxN)
          obtain ⟨nxB,nx0,nx1,nx2,nx3,nx4,nx5,nxf,nxL,nxN⟩:=nxd
          have BB2:Below W.heap.size W wr:=bstep BB.out hb
          clear BB
          have BB:Hid (Below W.heap.size W wr):=BB2
          clear BB2 hb hB HH2 O4 V1 V2
          go_wp2_with (first
            | (go_at_call 29;refine (HDf.out _ _ _ _ HH.out BB.out).mono ?_;rintro e w5 ⟨⟨u4,rfl⟩,hw,hb⟩;have HG:Hid (WAt b ps2 w5):=hw;have O6:Hid (w5.ownsRow w2.heap.size 86 4 (.slice x1 i x2) i (flat4 T)):=rowKeepN O5.out (Nat.le_refl _) hb;have BB2:Below W.heap.size W w5:=BB.out.trans (hb.bel.mono (by omega));clear BB;have BB:Hid (Below W.heap.size W w5):=BB2;clear BB2;clear hb hw HDf HH O5 nxB nx0 nx1 nx2 nx3 nx4 nx5 nxf nxL nxN)
            | (go_at_call 46;refine (HD3.out _ _ HG.out).mono ?_;rintro e w6 ⟨⟨vo3,rfl,ho⟩,hb⟩;obtain ⟨z1,z2,rfl⟩:=ownv ho;have O8:Hid (w6.ownsRow w5.heap.size 86 4 (.slice z1 i z2) i (flat4 T)):=ho;have O7:Hid (w6.ownsRow w2.heap.size 86 4 (.slice x1 i x2) i (flat4 T)):=rowBelow O6.out hb;have BB2:Below W.heap.size W w6:=bstep (by repeat (first|refine Below.setCell ?_ (by simp;try omega) _|refine Below.alloc ?_ (by have:=BB.out.size;simp;try omega) _|refine Below.drew ?_|exact BB.out)) hb;clear BB;have BB:Hid (Below W.heap.size W w6):=BB2;clear BB2;clear hb HD3 ho HG O6)
            | (go_at_call 50;refine (SS.out _ _ _ _ _ O7.out O8.out).mono ?_;rintro e w7 ⟨rfl,hb⟩;have BB2:Below W.heap.size W w7:=bstep (by repeat (first|refine Below.setCell ?_ (by simp;try omega) _|refine Below.alloc ?_ (by have:=BB.out.size;simp;try omega) _|refine Below.drew ?_|exact BB.out)) hb;clear BB;have BB:Hid (Below W.heap.size W w7):=BB2;clear BB2;clear hb SS O7 O8))
          all_goals go_ret
          all_goals exact ⟨retB (by simp [*]),(by repeat (first|refine Below.setCell ?_ (by simp;try omega) _|refine Below.alloc ?_ (by have:=BB.out.size;simp;try omega) _|refine Below.drew ?_|exact BB.out))⟩
theorem VtableGrows_any (v:Value) (l:List Cls) (c:Cls) (vi vm:Value) (id:Int) (W:World) (h:IsClss W v l) (hin:ClsIn W vi vm c):Calls Tryz.prog 12 #[v,clsV c vi vm,.int .i64 id] W fun e w'=>e=.returned (.bool true)∧Below W.heap.size W w':=by
  obtain ⟨ai,ni,ci,rfl⟩:=shp_slice hin.si
  obtain ⟨am,nm,cm,rfl⟩:=shp_slice hin.sm
  have hCW:=clss_w h
  have hWI:WI (wld l):=wld_wi l hCW
  have hU:UnqM (wld l):=unqM_wld l hCW
  have HB:∀ w:World,Below W.heap.size W w→Calls Tryz.prog 45 #[v] w fun e w'=>(∃ b,e=.returned (.pointer (some ⟨b,0,none⟩))∧WN w.heap.size w'.heap.size b (wld l) w')∧Below w.heap.size w w':=fun w hb=>(built13_n v l w (clss_keep h hb)).mono fun e w' zz=>by
    obtain ⟨⟨b,rfl,mb,vp,pv,hw⟩,hb2⟩:=zz
    exact ⟨⟨b,rfl,WN.of hw hb2.size⟩,hb2⟩
  generalize wld l=ps at *
  have hWI2:WI (dfP ps (defN ps c)):=hWI.define c hin.ok
  have hU2:UnqM (dfP ps (defN ps c)):=unq_define hU hin.ok
  have HD:∀ x b w,WAt b ps w→Calls Tryz.prog 46 #[.pointer (some ⟨b,0,none⟩),.int .i64 x] w fun e w'=>(∃ v,e=.returned (.tuple #[v,.int .i64 (vckE ps x)])∧w'.ownsRow w.heap.size 86 4 v (bldT ps x).length (flat4 (bldT ps x)))∧Below w.heap.size w w':=fun x b w hw=>bld_c hw hWI hU x
  have hdef:∀ n0 z0 b w,WN n0 z0 b ps w→Below W.heap.size W w→Calls Tryz.prog 29 #[.pointer (some ⟨b,0,none⟩),.agg #[.string c.nm,.string c.su,.slice ai ni ci,.int .i64 c.fl,.int .i64 c.ld,.slice am nm cm]] w fun e w'=>(∃ u,e=.returned u)∧WAt b (dfP ps (defN ps c)) w'∧KeepN n0 z0 w w':=fun n0 z0 b w hw hb=>define_n hw hWI c _ _ (hin.keep hb)
  show Calls Tryz.prog 12 #[v,.agg #[.string c.nm,.string c.su,.slice ai ni ci,.int .i64 c.fl,.int .i64 c.ld,.slice am nm cm],.int .i64 id] W fun e w'=>e=.returned (.bool true)∧Below W.heap.size W w'
  rcases vck_cases ps id with hv|⟨hT,he⟩
  · obtain ⟨k,q,rfl,hq⟩:=chk_zero hv
    have hk:=(List.getElem?_eq_some_iff.1 hq).1
    have hT:bldT ps (k:Int)=tabP ps k:=by rw [bldT,if_pos hv,Int.toNat_natCast]
    obtain ⟨g1,g2⟩:=tab_dfP hWI hin.ok hk hv
    have HD1:=HD (k:Int)
    rw [hv] at HD1
    have HD3:∀ b w,WAt b (dfP ps (defN ps c)) w→Calls Tryz.prog 46 #[.pointer (some ⟨b,0,none⟩),.int .i64 (k:Int)] w fun e w'=>(∃ v,e=.returned (.tuple #[v,.int .i64 0])∧w'.ownsRow w.heap.size 86 4 v (bldT ps (k:Int)).length (flat4 (bldT ps (k:Int))))∧Below w.heap.size w w':=fun b w hw=>by
      have:=bld_c hw hWI2 hU2 (k:Int)
      rw [g1,g2] at this
      exact this
    have hlen:(bldT ps (k:Int)).length≤1000000000:=by rw [hT];exact (Nat.le_trans (tabP_len hWI hk) (by decide))
    have HO:∀ x∈bldT ps (k:Int),∀ b w,WAt b ps w→Calls Tryz.prog 20 #[.pointer (some ⟨b,0,none⟩),.agg #[.int .i64 x.2.1,.int .i64 x.2.2],.agg #[.int .i64 x.1.1,.int .i64 x.1.2]] w fun e w'=>e=.returned (.tuple #[.bool true,.int .i64 0])∧Below w.heap.size w w':=fun x hx b w hw=>by
      rw [hT] at hx
      have h1:=(tab_over hWI hU hk hx).1
      have:=ovr_c hw hWI x.2.1 x.2.2 x.1.1 x.1.2
      rw [show ovrI ps (x.2.1,x.2.2) (x.1.1,x.1.2)=(true,0) from Prod.ext h1 (ovr_zero h1)] at this
      exact this
    have HX:∀ x∈bldT ps (k:Int),∀ b w,WAt b ps w→Calls Tryz.prog 57 #[.pointer (some ⟨b,0,none⟩),.int .i64 (k:Int),.int .i64 x.2.1] w fun e w'=>e=.returned (.bool true)∧Below w.heap.size w w':=fun x hx b w hw=>by
      rw [hT] at hx
      obtain ⟨_,d,hd,ed⟩:=tab_over hWI hU hk hx
      have hdl:=ch_in hWI.wo k (by rw [List.length_map];exact hk) d hd
      rw [List.length_map] at hdl
      have:=extends_c hw hWI (k:Int) x.2.1
      rw [ed,extI_nat hk hdl,(ext_iff _ _ _).2 (.inl hd)] at this
      rw [ed]
      exact this
    have HN:∀ (i j:Nat) (x y:Sl),j<i→(bldT ps (k:Int))[i]?=some x→(bldT ps (k:Int))[j]?=some y→((x.1.1 == y.1.1)&&(x.1.2 == y.1.2))=false:=fun i j x y hj hx hy=>by
      rw [hT] at hx hy
      have hnd:=tab_nodup hWI hk
      obtain ⟨hil,hie⟩:=List.getElem?_eq_some_iff.1 hx
      obtain ⟨hjl,hje⟩:=List.getElem?_eq_some_iff.1 hy
      have hne:=List.pairwise_iff_getElem.1 hnd j i (by rw [List.length_map];exact hjl) (by rw [List.length_map];exact hil) hj
      rw [List.getElem_map,List.getElem_map,hie,hje] at hne
      cases e:(x.1.1 == y.1.1)&&(x.1.2 == y.1.2) with
      | false=>rfl
      | true =>
        rw [Bool.and_eq_true,beq_iff_eq,beq_iff_eq] at e
        exact absurd (Prod.ext e.1.symm e.2.symm) hne
    have hSS:∀ (N1 N2:Nat) (v1 v2:Value) (w:World),w.ownsRow N1 86 4 v1 (bldT ps (k:Int)).length (flat4 (bldT ps (k:Int)))→w.ownsRow N2 86 4 v2 (bldT ps (k:Int)).length (flat4 (bldT ps (k:Int)))→Calls Tryz.prog 50 #[v1,v2] w fun e w'=>e=.returned (.bool true)∧Below w.heap.size w w':=fun N1 N2 v1 v2 w h1 h2=>sameSlots_eq N1 N2 _ v1 v2 w h1 h2 hlen
    have HS:∀ b w,WAt b ps w→Calls Tryz.prog 58 #[.pointer (some ⟨b,0,none⟩),.int .i64 (k:Int)] w fun e w'=>e=.returned (if k=0 then .tuple #[.int .i64 0,.int .i64 6] else .tuple #[.int .i64 (q.sp:Int),.int .i64 0])∧w'=w:=fun b w hw=>by
      obtain ⟨N,mb,vp,pv,hw⟩:=hw
      exact super_yes N b mb ps vp pv k q w hw hq
    by_cases h0:k=0
    · have HS1:∀ b w,WAt b ps w→Calls Tryz.prog 58 #[.pointer (some ⟨b,0,none⟩),.int .i64 (k:Int)] w fun e w'=>e=.returned (.tuple #[.int .i64 0,.int .i64 6])∧w'=w:=fun b w hw=>by
        have:=HS b w hw
        rw [if_pos h0] at this
        exact this
      exact vgr_2 ps _ W v c ai ni ci am nm cm (k:Int) _ _ rfl hlen HB HD1 HS1 HO HX HN hdef HD3 hSS
    · have HS1:∀ b w,WAt b ps w→Calls Tryz.prog 58 #[.pointer (some ⟨b,0,none⟩),.int .i64 (k:Int)] w fun e w'=>e=.returned (.tuple #[.int .i64 (q.sp:Int),.int .i64 0])∧w'=w:=fun b w hw=>by
        have:=HS b w hw
        rw [if_neg h0] at this
        exact this
      obtain ⟨s1,s2⟩:=sup_tab hWI hq hv (by omega)
      have HE:=HD (q.sp:Int)
      rw [s1] at HE
      have hle:(bldT ps (q.sp:Int)).length≤(bldT ps (k:Int)).length:=by
        have:=s2.length_le
        rwa [List.length_map,List.length_map] at this
      refine vgr_3 ps _ W v c ai ni ci am nm cm (k:Int) _ _ rfl hlen _ _ _ rfl hle (fun i x y hx hy=>?_) HB HD1 HS1 HE HO HX HN hdef HD3 hSS
      obtain ⟨t,ht⟩:=s2
      have h1:((bldT ps (q.sp:Int)).map Prod.fst)[i]?=some x.1:=by rw [List.getElem?_map,hx];rfl
      have h2:((bldT ps (k:Int)).map Prod.fst)[i]?=some y.1:=by rw [List.getElem?_map,hy];rfl
      rw [← ht,List.getElem?_append_left (List.getElem?_eq_some_iff.1 h1).1,h1] at h2
      injection h2
  · exact vgr_1 ps W v c ai ni ci am nm cm id _ _ _ ⟨by rw [hT];rfl,he⟩ HB (HD id)
end Go.Proofs.YtjlfnelihbdhjaaGreat
