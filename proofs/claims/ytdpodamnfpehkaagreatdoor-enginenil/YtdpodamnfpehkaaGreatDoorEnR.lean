import Derived.Test.YtdpodamnfpehkaaGreatDoorEnL
import Derived.Test.YtdpodamnfpehkaaGreatDoorTaA
import Derived.Test.YtdpodamnfpehkaaGreatDoorRwA
import Derived.Test.YtdpodamnfpehkaaGreatDoorHrT
set_option maxRecDepth 100000
namespace Go.Proofs.YtdpodamnfpehkaaGreatDoor.Sk
open Go.RowKit Go.Maps
theorem made_nil (W:World):Calls Tryz.prog 12 #[.pointer none] W fun e w'=>e=.returned (.bool false)∧w'=W:=by
  go_enter Tryz.func12,Tryz.ntmps12
  go_wp2
  go_ret
  exact ⟨rfl,rfl⟩
theorem made_yes {W:World} {ge lb:Nat} (h:W.cell? ⟨ge,0,none⟩=some (.pointer (some ⟨lb,0,none⟩))):Calls Tryz.prog 12 #[.pointer (some ⟨ge,0,none⟩)] W fun e w'=>e=.returned (.bool true)∧w'=W:=by
  go_enter Tryz.func12,Tryz.ntmps12
  go_wp2
  go_ret
  exact ⟨rfl,rfl⟩
theorem hnw_e {W:World} {lb b:Nat} (h:W.cell? ⟨lb,0,none⟩=some (.pointer (some ⟨b,0,none⟩))):Calls Tryz.prog 26 #[.pointer (some ⟨lb,0,none⟩)] W fun e w'=>e=.returned (.tuple #[.pointer (some ⟨W.heap.size,0,none⟩),.int .i64 0])∧Below W.heap.size W w':=by
  have HL:Hid (Calls Tryz.prog 50 #[.pointer (some ⟨lb,0,none⟩)] W fun e w'=>e=.returned (.pointer (some ⟨b,0,none⟩))∧w'=W):=lwld_e lb _ W h
  go_enter Tryz.func26,Tryz.ntmps26
  go_wp2_with (go_at_call 50;refine HL.out.mono ?_;rintro e w' ⟨rfl,rfl⟩)
  go_ret2
  exact ⟨rfl,(Below.refl _ _).alloc (Nat.le_refl _) _⟩
def fuI (n:Int):Int:=min (max n 0) 100000
set_option maxHeartbeats 1000000 in
theorem newRun_e {W:World} {ge lb b:Nat} (hg:W.cell? ⟨ge,0,none⟩=some (.pointer (some ⟨lb,0,none⟩))) (hl:W.cell? ⟨lb,0,none⟩=some (.pointer (some ⟨b,0,none⟩))) (fuel:Int):Calls Tryz.prog 14 #[.pointer (some ⟨ge,0,none⟩),.int .i64 fuel] W fun e w'=>∃ rb he sb,e=.returned (.tuple #[.pointer (some ⟨rb,0,none⟩),.int .i64 0])∧w'.heap[rb]?=some (.cells (run0 ge he sb (fuI fuel)) 120 (0,0))∧StA w' (fun j=>j=sb) sb []∧rb≠sb∧W.heap.size≤rb∧W.heap.size≤sb∧Below W.heap.size W w':=by
  have HH:Hid (∀ w,Below W.heap.size W w→Calls Tryz.prog 26 #[.pointer (some ⟨lb,0,none⟩)] w fun e w'=>e=.returned (.tuple #[.pointer (some ⟨w.heap.size,0,none⟩),.int .i64 0])∧Below w.heap.size w w'):=fun w hb=>hnw_e (kc hb hl)
  have HS:Hid (∀ w,Calls Tryz.prog 27 #[] w fun e w'=>e=.returned (.pointer (some ⟨w.heap.size,0,none⟩))∧SkAt true w' (fun j=>j=w.heap.size) w.heap.size (.slice none 0 0) []∧Below w.heap.size w w'):=fun w=>new_s w
  have hgl:ge<W.heap.size:=World.block_lt_of_cell? W _ hg
  clear hl
  go_enter Tryz.func14,Tryz.ntmps14
  go_wp2_with (first
    | (go_at_call 27;refine (HS.out _).mono ?_;rintro e w2 ⟨rfl,hs,hb⟩;have S2:Hid (StA w2 (fun j=>j=w1.heap.size) w1.heap.size []):=⟨[],_,hs,rfl⟩;have B2:Hid (Below W.heap.size W w2):=Below.step B1.out hb;have hz2:w1.heap.size<w2.heap.size:=hs.sz _ rfl;clear hs hb HS)
    | (go_at_call 26;refine (HH.out _ (by repeat (first|exact Below.refl _ _|refine Below.setCell ?_ (by simp;try omega) _|refine Below.alloc ?_ (by simp;try omega) _|refine Below.drew ?_))).mono ?_;rintro e w1 ⟨rfl,hb⟩;have B1:Hid (Below W.heap.size W w1):=Below.step (by repeat (first|exact Below.refl _ _|refine Below.setCell ?_ (by simp;try omega) _|refine Below.alloc ?_ (by simp;try omega) _|refine Below.drew ?_)) hb;clear hb HH))
  go_ret2
  refine ⟨w2.heap.size,W.heap.size,w1.heap.size,rfl,haA _ _ rfl,S2.out.below ((Below.refl _ _).alloc (Nat.le_refl _) _),by omega,B2.out.size,B1.out.size,B2.out.alloc B2.out.size _⟩
theorem i32_c {n:Int} (h:I32 n) (W:World):Calls Tryz.prog 25 #[.int .i64 n] W fun e w'=>e=.returned (.bool true)∧w'=W:=by
  obtain ⟨h1,h2⟩:=h
  have d1:decide (-2147483648≤n)=true:=decide_eq_true h1
  have d2:decide (n≤2147483647)=true:=decide_eq_true h2
  go_enter Tryz.func25,Tryz.ntmps25
  go_wp2
  go_ret
  exact ⟨by simp,rfl⟩
set_option maxHeartbeats 4000000 in
theorem chkMain_e {W:World} (y:Bool) (q1 q2 q3:ByteArray) (vs:List Int) (va:Option Addr) (vc:Nat) (nv:Nat) (hnb:nv≤1000) (hnv:vs.length=nv) (hv:∀ k x,vs[k]?=some x→I32 x∧∃ g,va=some ⟨g,0,none⟩∧W.cell? ⟨g,k,none⟩=some (.int .i64 x))
    (HR:Hid (∀ w,Calls Tryz.prog 22 #[.agg #[.bool y,.string q1,.string q2,.string q3]] w fun e w'=>e=.returned (.int .i64 0)∧Below w.heap.size w w'))
    (HP:Hid (∀ w,Calls Tryz.prog 23 #[.string q3] w fun e w'=>(∃ a c vo x s,e=.returned (.tuple #[.agg #[.slice a nv c,.bool vo,.int .i64 x,.string s],.int .i64 0])∧∀ j,j<nv→∃ g,a=some ⟨g,0,none⟩∧w'.cell? ⟨g,j * 2,none⟩=some (.int .i64 0)∧w'.cell? ⟨g,j * 2+1,none⟩=some (.string ⟨#[]⟩))∧Below w.heap.size w w')) :
    Calls Tryz.prog 13 #[.agg #[.bool y,.string q1,.string q2,.string q3],.slice va nv vc] W fun e w'=>e=.returned (.int .i64 0)∧Below W.heap.size W w':=by
  have HV:Hid (∀ k x,vs[k]?=some x→I32 x∧∃ g,va=some ⟨g,0,none⟩∧W.cell? ⟨g,k,none⟩=some (.int .i64 x)):=hv
  have HNV:Hid (vs.length=nv):=hnv
  have HI:Hid (∀ w,Calls Tryz.prog 24 #[] w fun e w'=>e=.returned (.agg #[.int .i64 0,.string ⟨#[]⟩])∧Below w.heap.size w w'):=fun w=>ity_c w
  clear hv hnv
  go_enter Tryz.func13,Tryz.ntmps13
  go_wp2_with (first
    | (go_at_call 23;refine (HP.out _).mono ?_;rintro e w2 ⟨⟨a,c,vo,x,s,rfl,hd⟩,hb⟩;have HD:Hid (∀ j,j<nv→∃ g,a=some ⟨g,0,none⟩∧w2.cell? ⟨g,j * 2,none⟩=some (.int .i64 0)∧w2.cell? ⟨g,j * 2+1,none⟩=some (.string ⟨#[]⟩)):=hd;have B2:Hid (Below W.heap.size W w2):=Below.step B1.out hb;clear hd hb HP)
    | (go_at_call 22;refine (HR.out _).mono ?_;rintro e w1 ⟨rfl,hb⟩;have B1:Hid (Below W.heap.size W w1):=Below.step (by repeat (first|exact Below.refl _ _|refine Below.setCell ?_ (by simp;try omega) _|refine Below.alloc ?_ (by simp;try omega) _|refine Below.drew ?_)) hb;have M1:=four_kc (n:=W.heap.size) hb (haA W _ rfl);obtain ⟨mB,m0,m1,m2,m3,mf,mL,mN⟩:=M1;clear hb HR))
  refine wp_name (fun U hU=>?_)
  have BU:Hid (Below W.heap.size W U):=by rw [hU];exact B2.out.alloc B2.out.size _
  have hs0:U.heap[w2.heap.size]?=some (.cells #[.slice a nv c,.bool vo,.int .i64 x,.string s] 104 (0,0)):=by rw [hU];exact haA _ _ rfl
  have u0:Hid (U.cell? ⟨w2.heap.size,0,none⟩=some (.slice a nv c)):=(cell_of_row U _ 0 _ _ _ hs0).trans rfl
  have b2U:Hid (Below w2.heap.size w2 U):=by rw [hU];exact (Below.refl _ _).alloc (Nat.le_refl _) _
  have zU:U.heap.size=w2.heap.size+1:=by rw [hU];simp
  clear hU hs0 mB m0 m1 m2 m3 mf mL mN B1 B2
  go_loopw [26] (fun iv wr=>∃ (i:Nat),iv=.int .i64 (i:Int)∧i≤nv∧Hid (Below U.heap.size U wr)) (fun iv _=>nv - (intOf iv).toNat)
  case atStart=>exact ⟨0,rfl,Nat.zero_le _,Below.refl _ _⟩
  case round =>
    obtain ⟨i,rfl,hi,hB⟩:=hrel
    by_cases hlt:i<nv
    · obtain ⟨z,hz⟩:∃ z,vs[i]?=some z:=⟨_,List.getElem?_eq_getElem (by rw [HNV.out];exact hlt)⟩
      obtain ⟨h32,gv,rfl,v0⟩:=HV.out i z hz
      obtain ⟨gd,rfl,d0,d1⟩:=HD.out i hlt
      have H32:Hid (∀ w,Calls Tryz.prog 25 #[.int .i64 z] w fun e w'=>e=.returned (.bool true)∧w'=w):=fun w=>i32_c h32 w
      have gvl:gv<W.heap.size:=World.block_lt_of_cell? W _ v0
      have gdl:gd<w2.heap.size:=World.block_lt_of_cell? w2 _ d0
      have hiI:(i:Int)<(nv:Int):=by omega
      have x0:wr.cell? ⟨gv,i,none⟩=some (.int .i64 z):=((BU.out.trans (hB.out.mono BU.out.size)).cell (p:=⟨gv,i,none⟩) gvl).trans v0
      have y0:=((b2U.out.trans (hB.out.mono b2U.out.size)).cell (p:=⟨gd,i * 2,none⟩) gdl).trans d0
      have y1:=((b2U.out.trans (hB.out.mono b2U.out.size)).cell (p:=⟨gd,i * 2+1,none⟩) gdl).trans d1
      have z0:=(hB.out.cell (p:=⟨w2.heap.size,0,none⟩) (by show w2.heap.size<U.heap.size;omega)).trans u0.out
      have l1:gd<wr.heap.size:=World.block_lt_of_cell? wr _ y0
      have l2:w2.heap.size<wr.heap.size:=World.block_lt_of_cell? wr _ z0
      clear h32 v0 d0 d1 hz
      go_upto_region 9 with fail
      obtain ⟨σ,V,hne,V1,V2⟩:=class_of' (fun w'=>Below wr.heap.size wr w') ⟨_,Below.refl _ _⟩
      have e1:=fun q=>((V1.out q).cell (p:=⟨gd,i * 2,none⟩) l1).trans y0
      have e2:=fun q=>((V1.out q).cell (p:=⟨gd,i * 2+1,none⟩) l1).trans y1
      have e3:=fun q=>((V1.out q).cell (p:=⟨w2.heap.size,0,none⟩) l2).trans z0
      have HVI:Hid (∀ q,Calls Tryz.prog 24 #[] (V q) fun e w'=>e=.returned (.agg #[.int .i64 0,.string ⟨#[]⟩])∧∃ q',w'=V q'):=fun q=>(HI.out _).mono fun e w' ⟨h1,h2⟩=>⟨h1,V2.out _ (Below.step (V1.out q) h2)⟩
      have HV3:Hid (∀ q,Calls Tryz.prog 25 #[.int .i64 z] (V q) fun e w'=>e=.returned (.bool true)∧∃ q',w'=V q'):=fun q=>(H32.out _).mono fun e w' ⟨h1,h2⟩=>⟨h1,q,h2⟩
      refine wp_region_class (C:=fun w'=>∃ q,w'=V q) (by kernel_rfl) (by kernel_rfl) (V2.out _ (Below.refl _ _).drew) ?_
      repeat (go_big_quiet_step (first|(go_at_call 24;exact HVI.out _)|(go_at_call 25;exact HV3.out _)))
      refine wpQuiet_nil ?_
      intro w9 hw9
      obtain ⟨s9,rfl⟩:=hw9
      have B9:Hid (Below U.heap.size U (V s9)):=Below.step hB.out (V1.out s9)
      clear e1 e2 e3 HVI HV3 V2 x0 y0 y1 z0
      go_wp2_with fail
      go_roundw
      case rel=>exact ⟨i+1,by go_num,by omega,B9⟩
      case measure=>simp [intOf];omega
    · obtain rfl:i=nv:=by omega
      go_wp2
      go_ret
      exact ⟨rfl,Below.step BU.out hB.out⟩
theorem lnew_e (b:Nat) (W:World):Calls Tryz.prog 20 #[.pointer (some ⟨b,0,none⟩)] W fun e w'=>e=.returned (.tuple #[.pointer (some ⟨W.heap.size+1,0,none⟩),.int .i64 0])∧w'.cell? ⟨W.heap.size+1,0,none⟩=some (.pointer (some ⟨b,0,none⟩))∧W.heap.size+2≤w'.heap.size∧Below W.heap.size W w':=by
  have hmm:=@run_makeMap Tryz.prog
  go_enter Tryz.func20,Tryz.ntmps20
  go_wp2
  go_ret2
  exact ⟨by simp,by simp,by simp,((Below.refl _ _).alloc (Nat.le_refl _) _).alloc (by simp) _⟩
theorem cnw0 (W:World):Calls Tryz.prog 10 #[.int .i64 0] W fun e w'=>(∃ p,e=.returned (.tuple #[.pointer p,.int .i64 0]))∧Below W.heap.size W w':=by
  go_enter Tryz.func10,Tryz.ntmps10
  go_wp2
  go_ret2
  exact ⟨⟨_,rfl⟩,(by repeat (first|exact Below.refl _ _|refine Below.setCell ?_ (by simp;try omega) _|refine Below.alloc ?_ (by simp;try omega) _|refine Below.drew ?_))⟩
theorem cnw1 (W:World):Calls Tryz.prog 10 #[.int .i64 1] W fun e w'=>(∃ p,e=.returned (.tuple #[.pointer p,.int .i64 0]))∧Below W.heap.size W w':=by
  go_enter Tryz.func10,Tryz.ntmps10
  go_wp2
  go_ret2
  exact ⟨⟨_,rfl⟩,(by repeat (first|exact Below.refl _ _|refine Below.setCell ?_ (by simp;try omega) _|refine Below.alloc ?_ (by simp;try omega) _|refine Below.drew ?_))⟩
theorem engNil_e (k:Int) (W:World):Calls Tryz.prog 5 #[.pointer none,.int .i64 k] W fun e w'=>e=.returned (.tuple #[.pointer none,.int .i64 2])∧w'=W:=by
  go_enter Tryz.func5,Tryz.ntmps5
  go_wp2
  go_ret2
  exact ⟨rfl,rfl⟩
theorem engNew_e (lb:Nat) (k:Int) (hk:k=0∨k=1) (W:World):Calls Tryz.prog 5 #[.pointer (some ⟨lb,0,none⟩),.int .i64 k] W fun e w'=>∃ ge,e=.returned (.tuple #[.pointer (some ⟨ge,0,none⟩),.int .i64 0])∧w'.cell? ⟨ge,0,none⟩=some (.pointer (some ⟨lb,0,none⟩))∧W.heap.size≤ge∧Below W.heap.size W w':=by
  have hmm:=@run_makeMap Tryz.prog
  have HC:Hid (∀ w,Calls Tryz.prog 10 #[.int .i64 k] w fun e w'=>(∃ p,e=.returned (.tuple #[.pointer p,.int .i64 0]))∧Below w.heap.size w w'):=fun w=>by
    rcases hk with rfl|rfl
    · exact cnw0 w
    · exact cnw1 w
  have HT:Hid (∀ w:World,Calls Tryz.prog 11 #[.int .i64 4] w fun e w'=>e=.returned (.tuple #[.pointer (some ⟨w.heap.size+1,0,none⟩),.int .i64 0])∧Below w.heap.size w w'):=fun w=>(tnew_yes 4 (by decide) (by decide) w).mono (fun _ _ x=>⟨x.1,x.2.2.1⟩)
  clear hk
  go_enter Tryz.func5,Tryz.ntmps5
  go_wp2_with (first
    | (go_at_call 11;refine (HT.out _).mono ?_;rintro e w2 ⟨rfl,hb⟩;have B2:Hid (Below W.heap.size W w2):=Below.step B1.out hb;clear hb)
    | (go_at_call 10;refine (HC.out _).mono ?_;rintro e w1 ⟨⟨p,rfl⟩,hb⟩;have B1:Hid (Below W.heap.size W w1):=hb;clear hb))
  go_ret2
  exact ⟨_,rfl,by simp,by have:=B2.out.size;simp;omega,(B2.out.alloc B2.out.size _).alloc (by have:=B2.out.size;simp;omega) _⟩
set_option maxHeartbeats 4000000 in
theorem started_e (v:Value) (l:List Cls) (k:Int) (hk:k=0∨k=1) (W:World) (h:IsClss W v l):Calls Tryz.prog 9 #[v,.int .i64 k] W fun e w'=>∃ b ge lb,e=.returned (.tuple #[.pointer (some ⟨b,0,none⟩),.pointer (some ⟨ge,0,none⟩),.int .i64 0])∧Below W.heap.size W w'∧WAt b (wld l) w'∧w'.cell? ⟨ge,0,none⟩=some (.pointer (some ⟨lb,0,none⟩))∧w'.cell? ⟨lb,0,none⟩=some (.pointer (some ⟨b,0,none⟩)):=by
  have hCW:=clss_w h
  obtain ⟨ao,cap,rfl,h1,h2,h3⟩:=h
  unfold maxLen at h2
  obtain ⟨L,hL⟩:∃ L,l.length=L:=⟨_,rfl⟩
  have HL:Hid (l.length=L):=hL
  have HI:Hid _:=h3
  have HCW:Hid (∀ c∈l,ClsW c):=hCW
  rw [hL] at h1 ⊢
  clear hL h3 hCW
  have HN:Hid (∀ w:World,Calls Tryz.prog 18 #[] w fun e w'=>e=.returned (.pointer (some ⟨w.heap.size+1,0,none⟩))∧(∃ vp pv,HW w' w.heap.size (w.heap.size+1) w.heap.size P3 vp pv)∧Below w.heap.size w w'):=new_any
  go_enter Tryz.func9,Tryz.ntmps9
  go_wp2_with (first
    | (go_at_call 18;refine (HN.out _).mono ?_;rintro e w2 ⟨rfl,hw,hb⟩;have H2:Hid (∃ vp pv,HW w2 W.heap.size (W.heap.size+1) W.heap.size P3 vp pv):=hw;have B2:Hid (Below W.heap.size W w2):=hb;clear hb hw HN))
  go_loopw [8] (fun iv wr=>∃ (i:Nat),iv=.int .i64 i∧i≤L∧Hid (∃ vp pv,HW wr W.heap.size (W.heap.size+1) W.heap.size (wld (l.take i)) vp pv)∧Hid (Below W.heap.size W wr)) (fun iv _=>L - (intOf iv).toNat)
  case atStart=>exact ⟨0,rfl,Nat.zero_le _,H2,B2⟩
  case round =>
    clear H2 B2
    obtain ⟨i,rfl,hi,hHW,hB⟩:=hrel
    by_cases hlt:i<L
    · obtain ⟨c,hc⟩:∃ c,l[i]?=some c:=⟨_,List.getElem?_eq_getElem (by rw [HL.out];exact hlt)⟩
      obtain ⟨bk,o,rfl,hbk,hcl⟩:=HI.out (fun e=>by rw [e] at hc;simp at hc)
      obtain ⟨vi,vm,hcell,hin⟩:=hcl i c hc
      have bel:Below W.heap.size W wr:=hB.out
      have p0:wr.cell? ⟨bk,o+i * 6,none⟩=some (.string c.nm):=(bel.cell (p:=⟨bk,o+i * 6,none⟩) hbk).trans (hcell 0 _ rfl)
      have p1:wr.cell? ⟨bk,o+i * 6+1,none⟩=some (.string c.su):=(bel.cell (p:=⟨bk,o+i * 6+1,none⟩) hbk).trans (hcell 1 _ rfl)
      have p2:wr.cell? ⟨bk,o+i * 6+2,none⟩=some vi:=(bel.cell (p:=⟨bk,o+i * 6+2,none⟩) hbk).trans (hcell 2 _ rfl)
      have p3:wr.cell? ⟨bk,o+i * 6+3,none⟩=some (.int .i64 c.fl):=(bel.cell (p:=⟨bk,o+i * 6+3,none⟩) hbk).trans (hcell 3 _ rfl)
      have p4:wr.cell? ⟨bk,o+i * 6+4,none⟩=some (.int .i64 c.ld):=(bel.cell (p:=⟨bk,o+i * 6+4,none⟩) hbk).trans (hcell 4 _ rfl)
      have p5:wr.cell? ⟨bk,o+i * 6+5,none⟩=some vm:=(bel.cell (p:=⟨bk,o+i * 6+5,none⟩) hbk).trans (hcell 5 _ rfl)
      have hWI:WI (wld (l.take i)):=wld_wi _ (fun c hc=>HCW.out c (List.mem_of_mem_take hc))
      have HD:Hid (Calls Tryz.prog 19 #[.pointer (some ⟨W.heap.size+1,0,none⟩),.agg #[.string c.nm,.string c.su,vi,.int .i64 c.fl,.int .i64 c.ld,vm]] wr fun e w'=>(∃ u,e=.returned u)∧Hid (∃ vp pv,HW w' W.heap.size (W.heap.size+1) W.heap.size (wld (l.take (i+1))) vp pv)∧Hid (Below W.heap.size W w')):=by
        obtain ⟨vp,pv,hw⟩:=hHW.out
        refine (define_any W.heap.size (W.heap.size+1) W.heap.size _ vp pv c vi vm wr hw hB.out.size (hin.keep bel) hWI.nm).mono ?_
        rintro e w' ⟨rfl,hw',hb',_⟩
        rw [wld_at hc]
        exact ⟨⟨_,rfl⟩,hw',hB.out.trans hb'⟩
      clear hcl hcell hin hc bel hWI hHW hB HI
      go_wp2_with (go_at_call 19;refine HD.out.mono ?_;rintro e w3 ⟨⟨u3,rfl⟩,hw3,hb3⟩;clear HD)
      go_roundw
      case rel=>exact ⟨i+1,by go_num,by omega,hw3,hb3⟩
      case measure=>simp [intOf];omega
    · have e:i=L:=by omega
      subst e
      have HF:Hid (WAt (W.heap.size+1) (wld l) wr):=by
        obtain ⟨vp,pv,hw⟩:=hHW.out
        rw [List.take_of_length_le (by rw [HL.out];exact Nat.le_refl _)] at hw
        exact hw.wat
      clear hHW HI
      have HL2:Hid (∀ (b:Nat) (w:World),Calls Tryz.prog 20 #[.pointer (some ⟨b,0,none⟩)] w fun e w'=>e=.returned (.tuple #[.pointer (some ⟨w.heap.size+1,0,none⟩),.int .i64 0])∧w'.cell? ⟨w.heap.size+1,0,none⟩=some (.pointer (some ⟨b,0,none⟩))∧w.heap.size+2≤w'.heap.size∧Below w.heap.size w w'):=lnew_e
      have HEn:Hid (∀ (lb:Nat) (w:World),Calls Tryz.prog 5 #[.pointer (some ⟨lb,0,none⟩),.int .i64 k] w fun e w'=>∃ ge,e=.returned (.tuple #[.pointer (some ⟨ge,0,none⟩),.int .i64 0])∧w'.cell? ⟨ge,0,none⟩=some (.pointer (some ⟨lb,0,none⟩))∧w.heap.size≤ge∧Below w.heap.size w w'):=fun lb w=>engNew_e lb k hk w
      clear hk
      go_wp2_with (first
        | (go_at_call 20;refine (HL2.out _ _).mono ?_;rintro e w5 ⟨rfl,hc,hz5,hb⟩;have B5:Hid (Below wr.heap.size wr w5):=hb;have C5:Hid _:=hc;clear hb hc HL2)
        | (go_at_call 5;refine (HEn.out _ _).mono ?_;rintro e w6 ⟨ge,rfl,hg,hz,hb⟩;have G6:Hid _:=hg;have B6:Hid (Below w5.heap.size w5 w6):=hb;clear hg hz hb HEn))
      refine bodyPost_ret (v:=.tuple #[.pointer (some ⟨W.heap.size+1,0,none⟩),.pointer (some ⟨ge,0,none⟩),.int .i64 0]) (by simp [results,Tryz.results9,go_sem]) rfl ?_
      have hb6:Below wr.heap.size wr w6:=Below.step B5.out B6.out
      exact ⟨_,_,_,rfl,hB.out.trans (hb6.mono hB.out.size),HF.out.below hb6,G6.out,kc B6.out C5.out⟩
theorem runNil_e (y:Bool) (q1 q2 q3:ByteArray) (v:Value) (fuel:Int) (W:World):Calls Tryz.prog 6 #[.pointer none,.agg #[.bool y,.string q1,.string q2,.string q3],v,.int .i64 fuel] W fun e w'=>(∃ r,e=.returned (.tuple #[.agg #[.string ⟨#[]⟩,.int .i64 0,.bool false,.bool false,.int .i64 0,.int .i64 0],.int .i64 r])∧r=2)∧Below W.heap.size W w':=by
  have HMd:Hid (∀ w,Calls Tryz.prog 12 #[.pointer none] w fun e w'=>e=.returned (.bool false)∧w'=w):=fun w=>made_nil w
  go_enter Tryz.func6,Tryz.ntmps6
  go_wp2_with (go_at_call 12;refine (HMd.out _).mono ?_;rintro e w1 ⟨rfl,hw⟩;obtain rfl:=hw.symm)
  refine bodyPost_ret (v:=.tuple #[.agg #[.string ⟨#[]⟩,.int .i64 0,.bool false,.bool false,.int .i64 0,.int .i64 0],.int .i64 2]) (by simp [results,Tryz.results6,go_sem]) rfl ⟨⟨_,rfl,rfl⟩,(by repeat (first|exact Below.refl _ _|refine Below.setCell ?_ (by simp;try omega) _|refine Below.alloc ?_ (by simp;try omega) _|refine Below.drew ?_))⟩
set_option maxHeartbeats 2000000 in
theorem run_e {W:World} {ge lb b:Nat} (hg:W.cell? ⟨ge,0,none⟩=some (.pointer (some ⟨lb,0,none⟩))) (hl:W.cell? ⟨lb,0,none⟩=some (.pointer (some ⟨b,0,none⟩))) (q1 q2 q3:ByteArray) (va:Option Addr) (nv vc:Nat) (fuel:Int) (th:Int) (hs:Bool) (v:Int) (sp:Nat)
    (HCk:Hid (∀ w,Below W.heap.size W w→Calls Tryz.prog 13 #[.agg #[.bool false,.string q1,.string q2,.string q3],.slice va nv vc] w fun e w'=>e=.returned (.int .i64 0)∧Below w.heap.size w w'))
    (HWh:Hid (∀ w rb he sb,WyAt w rb ge lb b→w.heap[rb]?=some (.cells (run0 ge he sb (fuI fuel)) 120 (0,0))→StA w (fun j=>j=sb) sb []→rb≠sb→Below W.heap.size W w→Calls Tryz.prog 15 #[.pointer (some ⟨rb,0,none⟩),.agg #[.bool false,.string q1,.string q2,.string q3],.slice va nv vc] w fun e w'=>e=.returned (resV th hs v sp)∧Tch (fun j=>j=sb∨j=rb) w w')) :
    Calls Tryz.prog 6 #[.pointer (some ⟨ge,0,none⟩),.agg #[.bool false,.string q1,.string q2,.string q3],.slice va nv vc,.int .i64 fuel] W fun e w'=>e=.returned (.tuple #[resV th hs v sp,.int .i64 0])∧Below W.heap.size W w':=by
  have HMd:Hid (∀ w,Below W.heap.size W w→Calls Tryz.prog 12 #[.pointer (some ⟨ge,0,none⟩)] w fun e w'=>e=.returned (.bool true)∧w'=w):=fun w hb=>made_yes (kc hb hg)
  have HNr:Hid (∀ w,Below W.heap.size W w→Calls Tryz.prog 14 #[.pointer (some ⟨ge,0,none⟩),.int .i64 fuel] w fun e w'=>∃ rb he sb,e=.returned (.tuple #[.pointer (some ⟨rb,0,none⟩),.int .i64 0])∧w'.heap[rb]?=some (.cells (run0 ge he sb (fuI fuel)) 120 (0,0))∧StA w' (fun j=>j=sb) sb []∧rb≠sb∧w.heap.size≤rb∧w.heap.size≤sb∧Below w.heap.size w w'):=fun w hb=>newRun_e (kc hb hg) (kc hb hl) fuel
  have HG:Hid (W.cell? ⟨ge,0,none⟩=some (.pointer (some ⟨lb,0,none⟩))∧W.cell? ⟨lb,0,none⟩=some (.pointer (some ⟨b,0,none⟩))):=⟨hg,hl⟩
  clear hg hl
  go_enter Tryz.func6,Tryz.ntmps6
  go_wp2_with (first
    | (go_at_call 15; refine (HWh.out _ rb he sb ⟨(cell_of_row w2 rb 0 _ _ _ RR.out).trans rfl, kc B2.out HG.out.1, kc B2.out HG.out.2⟩ RR.out SR.out NR.out.1 B2.out).mono ?_; rintro e w3 ⟨he, ht⟩; rw [resV] at he; subst he
       have hz3:=ht.size
       have B3:Hid (Below W.heap.size W w3):=B2.out.trans (ht.below B2.out.size (fun j hj=>by have:=NR.out.2;rcases hj with rfl|rfl <;> omega))
       have hq3:w3.heap[W.heap.size+1]?=_:=(ht.blk (W.heap.size+1) pL (fun hj=>by have:=NR.out.2;rcases hj with h|h <;> omega)).trans pB.out
       have p3:Hid (w3.heap[W.heap.size+1]?=some (.cells #[.string ⟨#[]⟩,.int .i64 0,.bool false,.bool false,.int .i64 0,.int .i64 0] 30 (0,0))):=hq3
       have o0:w3.cell? ⟨W.heap.size+1,0,none⟩=some (.string ⟨#[]⟩):=(cell_of_row w3 _ 0 _ _ _ hq3).trans rfl
       have o1:w3.cell? ⟨W.heap.size+1,1,none⟩=some (.int .i64 0):=(cell_of_row w3 _ 1 _ _ _ hq3).trans rfl
       have o2:w3.cell? ⟨W.heap.size+1,2,none⟩=some (.bool false):=(cell_of_row w3 _ 2 _ _ _ hq3).trans rfl
       have o3:w3.cell? ⟨W.heap.size+1,3,none⟩=some (.bool false):=(cell_of_row w3 _ 3 _ _ _ hq3).trans rfl
       have o4:w3.cell? ⟨W.heap.size+1,4,none⟩=some (.int .i64 0):=(cell_of_row w3 _ 4 _ _ _ hq3).trans rfl
       have o5:w3.cell? ⟨W.heap.size+1,5,none⟩=some (.int .i64 0):=(cell_of_row w3 _ 5 _ _ _ hq3).trans rfl
       have oz:=fun k=>frozen_of_row w3 (W.heap.size+1) k _ _ hq3
       clear ht hq3 HWh)
    | (go_at_call 14; refine (HNr.out _ B1.out).mono ?_; rintro e w2 ⟨rb, he, sb, rfl, hrr, hst, hne, h1, h2, hb⟩
       have RR:Hid (w2.heap[rb]?=some (.cells (run0 ge he sb (fuI fuel)) 120 (0,0))):=hrr
       have SR:Hid (StA w2 (fun j=>j=sb) sb []):=hst
       have hz1:=B1.out.size
       have NR:Hid (rb≠sb∧W.heap.size+1<rb∧W.heap.size+1<sb):=⟨hne,by omega,by omega⟩
       have B2:Hid (Below W.heap.size W w2):=Below.step B1.out hb
       have M2:=four_kc (n:=W.heap.size) hb mB
       obtain ⟨mB2,m0,m1,m2,m3,mf,mL,mN⟩:=M2
       have P2:=six_kc (n:=W.heap.size+1) hb pB.out
       obtain ⟨pB,p0,p1,p2,p3,p4,p5,pf,pL,pN⟩:=P2
       clear hrr hst hne h1 h2 hb HNr B1)
    | (go_at_call 13; refine (HCk.out _ (by repeat (first | exact Below.refl _ _ | refine Below.setCell ?_ (by simp; try omega) _ | refine Below.alloc ?_ (by simp; try omega) _ | refine Below.drew ?_))).mono ?_; rintro e w1 ⟨rfl, hb⟩
       have B1:Hid (Below W.heap.size W w1):=Below.step (by repeat (first|exact Below.refl _ _|refine Below.setCell ?_ (by simp;try omega) _|refine Below.alloc ?_ (by simp;try omega) _|refine Below.drew ?_)) hb
       have M1:=four_kc (n:=W.heap.size) hb (hkA (haA W _ rfl))
       obtain ⟨mB,m0,m1,m2,m3,mf,mL,mN⟩:=M1
       have P1:=six_kc (n:=W.heap.size+1) hb (haA (W.alloc _) _ (szA _ _))
       obtain ⟨pB,p0,p1,p2,p3,p4,p5,pf,pL,pN⟩:=P1
       clear hb HCk)
    | (go_at_call 12;refine (HMd.out _ (by repeat (first|exact Below.refl _ _|refine Below.setCell ?_ (by simp;try omega) _|refine Below.alloc ?_ (by simp;try omega) _|refine Below.drew ?_))).mono ?_;rintro e w0 ⟨rfl,hw⟩;obtain rfl:=hw.symm))
  refine bodyPost_ret (v:=.tuple #[resV th hs v sp,.int .i64 0]) (by simp [results,Tryz.results6,go_sem,resV, *]) rfl ⟨rfl,?_⟩
  exact ((((((B3.out.setCell (by show W.heap.size≤W.heap.size+1;omega) _).setCell (by show W.heap.size≤W.heap.size+1;omega) _).setCell (by show W.heap.size≤W.heap.size+1;omega) _).setCell (by show W.heap.size≤W.heap.size+1;omega) _).setCell (by show W.heap.size≤W.heap.size+1;omega) _).setCell (by show W.heap.size≤W.heap.size+1;omega) _)
theorem meth_at {b:Nat} {ps:List Plc} {W:World} (h:WAt b ps W) (m1 m2:Int) (q:Plc) (hq:plcI ps m1=some q) (m:HM) (hm:methP q m2=some m) (hB:PlcB q) (code:List (Int×Int)) (hmn:m.n=code.length) (hmx:m.xs=flatN code) (hcp:0<code.length) :
    Calls Tryz.prog 93 #[.pointer (some ⟨b,0,none⟩),.agg #[.int .i64 m1,.int .i64 m2]] W fun e w'=>(∃ g c,e=.returned (.tuple #[.agg #[.string m.nm,.string m.ds,.int .i64 m.fl,.int .i64 m.lo,.int .i64 m.st,.slice (some ⟨g,0,none⟩) code.length c],.int .i64 0])∧w'.ownsRow W.heap.size 39 7 (.slice (some ⟨g,0,none⟩) code.length c) code.length (flatN code))∧Below W.heap.size W w':=by
  refine (method_yes h m1 m2 q hq m hm hB).mono ?_
  rintro e w' ⟨⟨v,rfl,ho⟩,hb⟩
  rw [hmn,hmx] at ho
  obtain ⟨g,c,rfl⟩:=Go.Joins.ownsRow_form ho hcp
  exact ⟨⟨g,c,rfl,ho⟩,hb⟩
theorem run_stat {W:World} {ge lb b:Nat} {ps:List Plc} (hw:WAt b ps W) (hi:WI ps) (hg:W.cell? ⟨ge,0,none⟩=some (.pointer (some ⟨lb,0,none⟩))) (hl:W.cell? ⟨lb,0,none⟩=some (.pointer (some ⟨b,0,none⟩)))
    (q1 q2 q3:ByteArray) (hq1:q1.size≤maxLen) (hq2:q2.size≤maxLen) (hq3:q3.size≤maxLen)
    (x:Int) (s:ByteArray) (d er:Int) (hs:s.size≤maxLen) (eP:Hid (∀ w,Calls Tryz.prog 43 #[.string q1] w fun e w'=>e=.returned (.tuple #[.agg #[.int .i64 x,.string s],.int .i64 0])∧Below w.heap.size w w')) (eH:hldR ps x s=(d,er))
    (m1 m2:Int) (e1:casI ps d 4 0 ⟨#[]⟩=0) (e2:crfI 4 false q1 q2 q3=0) (e3:metR ps d false q1 q2 q3=((m1,m2),0)) (e4:ftsB ps 4 (m1,m2)=true) (eR:rckE q1.data.toList q2.data.toList q3.data.toList=0)
    (q:Plc) (hq:plcI ps m1=some q) (m:HM) (hm:methP q m2=some m) (hB:PlcB q) (code:List (Int×Int)) (hmn:m.n=code.length) (hmx:m.xs=flatN code) (hcp:0<code.length) (hlo:0≤m.lo∧m.lo≤40) (hst:0≤m.st∧m.st≤40)
    (vs:List Int) (va:Option Addr) (vc:Nat) (hv:∀ k x,vs[k]?=some x→I32 x∧∃ g,va=some ⟨g,0,none⟩∧W.cell? ⟨g,k,none⟩=some (.int .i64 x)) (hvl:(vs.length:Int)≤m.lo) (hvn:vs.length≤1000)
    (HP:Hid (∀ w,Calls Tryz.prog 23 #[.string q3] w fun e w'=>(∃ a c vo x s,e=.returned (.tuple #[.agg #[.slice a vs.length c,.bool vo,.int .i64 x,.string s],.int .i64 0])∧∀ j,j<vs.length→∃ g,a=some ⟨g,0,none⟩∧w'.cell? ⟨g,j * 2,none⟩=some (.int .i64 0)∧w'.cell? ⟨g,j * 2+1,none⟩=some (.string ⟨#[]⟩))∧Below w.heap.size w w'))
    (fuel:Int) (nx:Nat→Nat) (pf:Nat→PF) (M:Nat) (v:Int) (hnx:nx 0=0) (hpf:pf 0=⟨[],m.st.toNat,lsI m.lo.toNat vs vs.length⟩)
    (GA:RA→Prop) (hGA:∀ A,GA A→A.bb=.slice none 0 0) (hGA2:∀ he sb fb fc g c,GA ⟨ge,he,sb,fb,fc,.pointer none,.slice none 0 0,fuI fuel,m.nm,m.ds,m.fl,m.lo,m.st,g,c,code,m1,m2⟩)
    (HS:Hid (∀ rb A,GA A→∀ k,k<M→∀ K w,RuAt w K rb A k (nx k) (pf k)→Calls Tryz.prog 31 #[.pointer (some ⟨rb,0,none⟩)] w fun e w'=>e=.returned (.tuple #[])∧RuR K w w' rb A (k+1) (nx (k+1)) (pf (k+1))))
    (HE:Hid (∀ rb A,GA A→∀ K w,RuAt w K rb A M (nx M) (pf M)→Calls Tryz.prog 31 #[.pointer (some ⟨rb,0,none⟩)] w fun e w'=>e=.returned (.tuple #[])∧EndR K w w' rb A (M+1) true v)) :
    Calls Tryz.prog 6 #[.pointer (some ⟨ge,0,none⟩),.agg #[.bool false,.string q1,.string q2,.string q3],.slice va vs.length vc,.int .i64 fuel] W fun e w'=>e=.returned (.tuple #[resV 0 true v (M+1),.int .i64 0])∧Below W.heap.size W w':=by
  refine run_e hg hl q1 q2 q3 va vs.length vc fuel 0 true v (M+1) (fun w hb=>?_) (fun w rb he sb hy hr hst2 hn hb=>?_)
  · refine chkMain_e (W:=w) false q1 q2 q3 vs va vc vs.length hvn rfl (fun k x hk=>?_) (fun w2=>by have:=refCheck_any false q1 q2 q3 hq1 hq2 hq3 w2;rw [eR] at this;exact this) HP
    obtain ⟨h1,g,h2,h3⟩:=hv k x hk
    exact ⟨h1,g,h2,kc hb h3⟩
  · have hrl:rb<w.heap.size:=(Array.getElem?_eq_some_iff.1 hr).1
    refine whole_ret hrl (hst2.lt rfl) hn GA hGA nx pf M v (fun w2 hb2=>?_) (HS.out rb) (HE.out rb)
    have hb3:Below W.heap.size W w2:=Below.step hb hb2
    have hcal:Hid (∀ w3,Below w2.heap.size w2 w3→Calls Tryz.prog 53 #[.pointer (some ⟨b,0,none⟩),.int .i64 d,.int .i64 4,.agg #[.bool false,.string q1,.string q2,.string q3],.agg #[.int .i64 0,.string ⟨#[]⟩]] w3 fun e w'=>e=.returned (.tuple #[.agg #[.int .i64 m1,.int .i64 m2],.int .i64 0])∧Below w3.heap.size w3 w'):=fun w3 hb4=>cal_static (hw.below (Below.step hb3 hb4)) hi d false q1 q2 q3 hq1 hq2 hq3 m1 m2 e1 e2 e3 e4
    have hbg:Hid (∀ w3,Below w2.heap.size w2 w3→Calls Tryz.prog 54 #[.pointer (some ⟨rb,0,none⟩),.agg #[.bool false,.string q1,.string q2,.string q3]] w3 fun e w'=>e=.returned (.int .i64 d)∧Below w3.heap.size w3 w'):=fun w3 hb4=>bgn_e ((hy.below hb2).below hb4) false q1 q2 q3 x s d er (fun w4 _=>eP.out w4) (fun w4 hb5=>by have:=hld_c (hw.below (Below.step (Below.step hb3 hb4) hb5)) x s hs;rw [eH] at this;exact this)
    have hmt:Hid (∀ w3,Below w2.heap.size w2 w3→Calls Tryz.prog 93 #[.pointer (some ⟨b,0,none⟩),.agg #[.int .i64 m1,.int .i64 m2]] w3 fun e w'=>(∃ g c,e=.returned (.tuple #[.agg #[.string m.nm,.string m.ds,.int .i64 m.fl,.int .i64 m.lo,.int .i64 m.st,.slice (some ⟨g,0,none⟩) code.length c],.int .i64 0])∧w'.ownsRow w3.heap.size 39 7 (.slice (some ⟨g,0,none⟩) code.length c) code.length (flatN code))∧Below w3.heap.size w3 w'):=fun w3 hb4=>meth_at (hw.below (Below.step hb3 hb4)) m1 m2 q hq m hm hB code hmn hmx hcp
    refine (begin_e (hy.below hb2) he sb (fuI fuel) ((hb2.block rb hrl).trans hr) (hst2.below hb2) hn false q1 q2 q3 d m1 m2 m.nm m.ds m.fl m.lo m.st code hlo hst hbg hcal hmt vs va vc (fun k x hk=>?_) hvl).mono ?_
    · obtain ⟨_,g,h2,h3⟩:=hv k x hk
      exact ⟨g,h2,kc hb3 h3⟩
    · rintro e w' ⟨rfl,fb,fc,g,c,K,h1,h2,h3,h4⟩
      exact ⟨rfl,_,K,hGA2 he sb fb fc g c,by rw [hnx,hpf];exact h1,h2,h3,h4⟩
def insI (i:Int×Int):Ins:=⟨i.1,i.2,⟨#[]⟩,false,⟨#[]⟩,⟨#[]⟩,⟨#[]⟩⟩
def cdA:List (Int×Int):=[(2,0),(1,1),(7,0),(36,0)]
def clA:Cls:=⟨⟨#[65]⟩,⟨#[79,98,106,101,99,116]⟩,[],1,0,[⟨⟨#[102]⟩,⟨#[40,73,41,73]⟩,9,1,2,cdA.map insI⟩]⟩
theorem wA_cas:casI (wld [clA]) 3 4 0 ⟨#[]⟩=0:=by decide +kernel
theorem wA_crf:crfI 4 false ⟨#[65]⟩ ⟨#[102]⟩ ⟨#[40,73,41,73]⟩=0:=by decide +kernel
theorem wA_met:metR (wld [clA]) 3 false ⟨#[65]⟩ ⟨#[102]⟩ ⟨#[40,73,41,73]⟩=((3,0),0):=by decide +kernel
theorem wA_fts:ftsB (wld [clA]) 4 (3,0)=true:=by decide +kernel
theorem wA_hld:hldR (wld [clA]) 0 ⟨#[65]⟩=(3,0):=by decide +kernel
theorem wA_prf:prfT [65]=(0,[65])∧prfE [65]=0:=by decide +kernel
theorem wA_rck:rckE [65] [102] [40,73,41,73]=0:=by decide +kernel
theorem wA_pd:pdE [40,73,41,73]=0∧pdD [40,73,41,73]=([(0,[])],some (0,[])):=by decide +kernel
def clS (cn ds:ByteArray) (lo st:Int) (cd:List (Int×Int)):Cls:=⟨cn,⟨#[79,98,106,101,99,116]⟩,[],1,0,[⟨⟨#[102]⟩,ds,9,lo,st,cd.map insI⟩]⟩
theorem flatN_I:∀ cd:List (Int×Int),flatI (cd.map insI)=flatN cd
  | []=>rfl
  | i::r=>by rw [List.map_cons,flatI,List.flatMap_cons,flatN];exact congrArg _ (flatN_I r)
theorem clss_lit {w:World} {n1 n2 n3 t1 t2 t3 k:Nat} {cn ds:ByteArray} {lo st:Int} {cd:List (Int×Int)}
    (h1:w.heap[n1]?=some (.cells #[.string cn,.string ⟨#[79,98,106,101,99,116]⟩,.slice none 0 0,.int .i64 1,.int .i64 0,.slice (some ⟨n2,0,none⟩) 1 1] t1 (0,0)))
    (h2:w.heap[n2]?=some (.cells #[.string ⟨#[102]⟩,.string ds,.int .i64 9,.int .i64 lo,.int .i64 st,.slice (some ⟨n3,0,none⟩) k k] t2 (0,0)))
    (h3:w.heap[n3]?=some (.cells (flatN cd).toArray t3 (0,0))) (hk:cd.length=k) (hk2:k≤1000) (ok:ClsW (clS cn ds lo st cd)):IsClss w (.slice (some ⟨n1,0,none⟩) 1 1) [clS cn ds lo st cd]:=by
  have l1:=(Array.getElem?_eq_some_iff.1 h1).1
  have l2:=(Array.getElem?_eq_some_iff.1 h2).1
  have l3:=(Array.getElem?_eq_some_iff.1 h3).1
  have hI:IsInss w (.slice (some ⟨n3,0,none⟩) k k) (cd.map insI):=by
    refine ⟨_,k,by rw [List.length_map,hk],by rw [List.length_map,hk];exact Nat.le_refl _,by unfold maxLen;omega,fun _=>⟨n3,0,rfl,l3,fun j i hi=>?_⟩⟩
    rw [List.getElem?_map] at hi
    cases e:cd[j]? with
    | none=>rw [e] at hi;cases hi
    | some p =>
      rw [e] at hi
      cases hi
      have hz:=fun m (hm:m<7)=>(flatN_at cd j p e m hm)
      have hc:=fun m (hm:m<7)=>(cell_of_row w n3 (j * 7+m) _ _ _ h3).trans ((List.getElem?_toArray ..).trans (hz m hm))
      rw [Nat.zero_add]
      exact ⟨hc 0 (by decide),hc 1 (by decide),hc 2 (by decide),hc 3 (by decide),hc 4 (by decide),hc 5 (by decide),hc 6 (by decide)⟩
  have c2:=fun m=>cell_of_row w n2 m _ _ _ h2
  have c1:=fun m=>cell_of_row w n1 m _ _ _ h1
  refine ⟨_,1,rfl,Nat.le_refl _,by unfold maxLen;omega,fun _=>⟨n1,0,rfl,l1,fun j c hj=>?_⟩⟩
  obtain ⟨rfl,rfl⟩:j=0∧c=clS cn ds lo st cd:=by
    cases j with
    | zero=>simp at hj;exact ⟨rfl,hj.symm⟩
    | succ j=>simp at hj
  refine ⟨.slice none 0 0,.slice (some ⟨n2,0,none⟩) 1 1,fun j u hu=>?_,?_⟩
  · rw [Nat.zero_mul,Nat.zero_add]
    rw [c1 j]
    match j,hu with
    | 0,hu=>exact hu
    | 1,hu=>exact hu
    | 2,hu=>exact hu
    | 3,hu=>exact hu
    | 4,hu=>exact hu
    | 5,hu=>exact hu
    | (j+6),hu=>simp at hu
  · refine ⟨⟨none,0,rfl,Nat.le_refl _,by unfold maxLen;omega,fun h=>absurd rfl h⟩,?_,.inl rfl,.inr ⟨_,_,_,rfl⟩,?_,ok⟩
    · refine ⟨_,1,rfl,Nat.le_refl _,by unfold maxLen;omega,fun _=>⟨n2,0,rfl,l2,fun j m hj=>?_⟩⟩
      obtain ⟨rfl,rfl⟩:j=0∧m=⟨⟨#[102]⟩,ds,9,lo,st,cd.map insI⟩:=by
        cases j with
        | zero=>exact ⟨rfl,by simpa [clS] using hj.symm⟩
        | succ j=>simp [clS] at hj
      exact ⟨c2 0,c2 1,c2 2,c2 3,c2 4,_,c2 5,hI⟩
    · rintro bk o n cap e j hj v hv
      cases e
      have hj0:j=0:=by simp [clS] at hj;exact hj
      subst hj0
      rw [show (0+0 * 6+5:Nat)=5 from rfl,c2 5] at hv
      cases hv
      exact .inr ⟨_,_,_,rfl⟩
theorem wA_w:ClsW clA:=by
  unfold ClsW
  refine ⟨by decide,by decide,fun p hp=>(by simp [clA] at hp),by decide,by decide,fun m hm=>?_⟩
  simp [clA] at hm
  subst hm
  unfold MthW
  refine ⟨by decide,by decide,by decide,by decide,by decide,fun i hi=>?_⟩
  simp [cdA] at hi
  rcases hi with rfl|rfl|rfl|rfl <;> (refine ⟨by decide,?_⟩;simp [InsOK,insI];exact Nat.zero_le _)
theorem wA_plc:(plcI (wld [clA]) 3).map (fun q=>q.c)=some (hcOf clA):=by kernel_rfl
theorem wA_meth:∃ q m,plcI (wld [clA]) 3=some q∧methP q 0=some m∧PlcB q∧m=hmOf ⟨⟨#[102]⟩,⟨#[40,73,41,73]⟩,9,1,2,cdA.map insI⟩:=by
  cases e:plcI (wld [clA]) 3 with
  | none=>have:=wA_plc;rw [e] at this;cases this
  | some q =>
    have h:=wA_plc
    rw [e] at h
    have hq:q.c=hcOf clA:=by simpa using h
    refine ⟨q,hmOf ⟨⟨#[102]⟩,⟨#[40,73,41,73]⟩,9,1,2,cdA.map insI⟩,rfl,by rw [methP,hq];rfl,?_,rfl⟩
    refine (wld_wi [clA] (fun c hc=>by simp at hc;subst hc;exact wA_w)).pb q ?_
    rw [show (3:Int)=((3:Nat):Int) from rfl,plcI_nat] at e
    exact List.mem_of_getElem? e
def pfA (k:Nat):PF:=⟨if k=0 then [] else if k=1 then [(false,5)] else if k=2 then [(false,5),(false,1)] else [(false,6)],2,lsI 1 [5] 1⟩
theorem runA_e {W:World} {ge lb b g c:Nat} (hw:WAt b (wld [clA]) W) (hg:W.cell? ⟨ge,0,none⟩=some (.pointer (some ⟨lb,0,none⟩))) (hl:W.cell? ⟨lb,0,none⟩=some (.pointer (some ⟨b,0,none⟩))) (hv:W.cell? ⟨g,0,none⟩=some (.int .i64 5)) :
    Calls Tryz.prog 6 #[.pointer (some ⟨ge,0,none⟩),.agg #[.bool false,.string ⟨#[65]⟩,.string ⟨#[102]⟩,.string ⟨#[40,73,41,73]⟩],.slice (some ⟨g,0,none⟩) 1 c,.int .i64 10] W fun e w'=>e=.returned (.tuple #[resV 0 true 6 4,.int .i64 0])∧Below W.heap.size W w':=by
  obtain ⟨q,m,hq,hm,hB,rfl⟩:=wA_meth
  have HD:Hid (∀ w,Calls Tryz.prog 23 #[.string ⟨#[40,73,41,73]⟩] w fun e w'=>(∃ a c vo x s,e=.returned (.tuple #[.agg #[.slice a 1 c,.bool vo,.int .i64 x,.string s],.int .i64 0])∧vo=false∧x=0∧s=⟨#[]⟩∧∀ j,j<1→∃ g,a=some ⟨g,0,none⟩∧w'.cell? ⟨g,j * 2,none⟩=some (.int .i64 0)∧w'.cell? ⟨g,j * 2+1,none⟩=some (.string ⟨#[]⟩))∧Below w.heap.size w w'):=fun w=>by
    refine (parseDesc_any ⟨#[40,73,41,73]⟩ (by decide) w).mono ?_
    rintro e w' ⟨v,rfl,ho,hb⟩
    rw [show (⟨#[40,73,41,73]⟩:ByteArray).data.toList=[40,73,41,73] from rfl,wA_pd.2] at *
    rw [wA_pd.1]
    obtain ⟨g,c,rfl⟩:=Go.Joins.ownsRow_form ho (by decide)
    refine ⟨⟨_,c,_,_,_,rfl,rfl,rfl,rfl,fun j hj=>⟨g,rfl,?_,?_⟩⟩,hb⟩
    · obtain rfl:j=0:=by omega
      exact (ho.cellAt 0 (by decide)).trans rfl
    · obtain rfl:j=0:=by omega
      exact (ho.cellAt 1 (by decide)).trans rfl
  refine run_stat hw (wld_wi [clA] (fun c hc=>by simp at hc;subst hc;exact wA_w)) hg hl ⟨#[65]⟩ ⟨#[102]⟩ ⟨#[40,73,41,73]⟩ (by decide) (by decide) (by decide) 0 ⟨#[65]⟩ 3 0 (by decide) (fun w=>?_) wA_hld 3 0 wA_cas wA_crf wA_met wA_fts wA_rck q hq _ hm hB cdA rfl (flatN_I cdA) (by decide) (by decide) (by decide) [5] (some ⟨g,0,none⟩) c (fun k x hk=>?_) (by decide) (by decide) (fun w=>?_) 10 id pfA 3 6 rfl rfl (fun A=>A.bb=.slice none 0 0∧A.code=cdA∧A.ds=⟨#[40,73,41,73]⟩∧A.fu=10) (fun A h=>h.1) (fun _ _ _ _ _ _=>⟨rfl,rfl,rfl,rfl⟩) ?_ ?_
  · have:=parseRef_any ⟨#[65]⟩ (by decide) w
    rw [show (⟨#[65]⟩:ByteArray).data.toList=[65] from rfl,wA_prf.1,wA_prf.2] at this
    exact this
  · cases k with
    | zero=>simp at hk;subst hk;exact ⟨by unfold I32;decide,g,rfl,hv⟩
    | succ k=>simp at hk
  · refine (HD.out w).mono ?_
    rintro e w' ⟨⟨a,c,vo,x,s,rfl,_,_,_,h⟩,hb⟩
    exact ⟨⟨a,c,vo,x,s,rfl,h⟩,hb⟩
  · intro rb A ⟨_,h2,_,h4⟩ k hk K w hr
    have hz:A.code.length≤1000:=by rw [h2];decide
    have hfu:A.fu≤100000:=by rw [h4];decide
    match k,hk with
    | 0,_=>exact stp_load hr 0 5 (by rw [h2];rfl) hz (by rw [h4];decide) hfu rfl (by decide)
    | 1,_=>exact stp_iconst hr 1 (by rw [h2];rfl) hz (by rw [h4];decide) hfu (by decide)
    | 2,_ =>
      have e:=stp_comp hr 7 0 (by rw [h2];rfl) hz (by rw [h4];decide) hfu [] 5 1 rfl (by decide) (.inl rfl) (by unfold I32;decide) (by unfold I32;decide)
      rw [show wrap32 (cmpI 7 5 1)=6 by decide +kernel] at e
      exact e
  · intro rb A ⟨_,h2,h3,h4⟩ K w hr
    refine stp_ret hr 0 (by rw [h2];rfl) (by rw [h2];decide) (by rw [h4];decide) (by rw [h4];decide) [] 6 rfl (fun w=>?_)
    rw [h3]
    refine (HD.out w).mono ?_
    rintro e w' ⟨⟨a,c,vo,x,s,rfl,rfl,rfl,rfl,_⟩,hb⟩
    exact ⟨⟨a,1,c,rfl⟩,hb⟩
set_option maxHeartbeats 1000000 in
theorem awake22_e (W:World):Calls Tryz.prog 4 #[] W fun e w'=>e=.returned (.bool true)∧Below W.heap.size W w':=by
  have HSt:Hid (∀ w v,IsClss w v [clA]→Calls Tryz.prog 9 #[v,.int .i64 0] w fun e w'=>∃ b ge lb,e=.returned (.tuple #[.pointer (some ⟨b,0,none⟩),.pointer (some ⟨ge,0,none⟩),.int .i64 0])∧Below w.heap.size w w'∧WAt b (wld [clA]) w'∧w'.cell? ⟨ge,0,none⟩=some (.pointer (some ⟨lb,0,none⟩))∧w'.cell? ⟨lb,0,none⟩=some (.pointer (some ⟨b,0,none⟩))):=fun w v h=>started_e v [clA] 0 (.inl rfl) w h
  go_enter Tryz.func4,Tryz.ntmps4
  go_wp2_with (first
    | (go_at_call 9;refine (HSt.out _ _ (clss_lit (n1:=W.heap.size+3) (n2:=W.heap.size+1) (n3:=W.heap.size) (k:=4) (cd:=cdA) (haA _ _ (by simp)) (hkA (hkA (haA _ _ (by simp)))) (hkA (hkA (hkA (haA W _ rfl)))) rfl (by decide) wA_w)).mono ?_;rintro e w1 ⟨b,ge,lb,rfl,hb,hw,hg,hl⟩;have B1:Hid (Below W.heap.size W w1):=Below.step (by repeat (first|exact Below.refl _ _|refine Below.setCell ?_ (by simp;try omega) _|refine Below.alloc ?_ (by simp;try omega) _|refine Below.drew ?_)) hb;have HX:Hid (WAt b (wld [clA]) w1∧w1.cell? ⟨ge,0,none⟩=some (.pointer (some ⟨lb,0,none⟩))∧w1.cell? ⟨lb,0,none⟩=some (.pointer (some ⟨b,0,none⟩))):=⟨hw,hg,hl⟩;clear hb hw hg hl HSt)
    | (go_at_call 6;refine (runA_e (W:=w1.alloc _) (HX.out.1.below ((Below.refl _ _).alloc (Nat.le_refl _) _)) (kc ((Below.refl _ _).alloc (Nat.le_refl _) _) HX.out.2.1) (kc ((Below.refl _ _).alloc (Nat.le_refl _) _) HX.out.2.2) (by simp)).mono ?_;rintro e w2 ⟨he,hb⟩;rw [resV] at he;subst he;have B2:Hid (Below W.heap.size W w2):=Below.step (B1.out.alloc B1.out.size _) hb;clear hb))
  go_ret
  exact ⟨rfl,B2.out.alloc B2.out.size _⟩
theorem cntNil_e (W:World):Calls Tryz.prog 7 #[.pointer none] W fun e w'=>e=.returned (.slice none 0 0)∧w'=W:=by
  have HMd:Hid (∀ w,Calls Tryz.prog 12 #[.pointer none] w fun e w'=>e=.returned (.bool false)∧w'=w):=fun w=>made_nil w
  go_enter Tryz.func7,Tryz.ntmps7
  go_wp2_with (go_at_call 12;refine (HMd.out _).mono ?_;rintro e w1 ⟨rfl,hw⟩;obtain rfl:=hw.symm)
  go_ret
  exact ⟨rfl,rfl⟩
theorem rdsNil_e (W:World):Calls Tryz.prog 8 #[.pointer none] W fun e w'=>e=.returned (.int .i64 0)∧w'=W:=by
  have HMd:Hid (∀ w,Calls Tryz.prog 12 #[.pointer none] w fun e w'=>e=.returned (.bool false)∧w'=w):=fun w=>made_nil w
  go_enter Tryz.func8,Tryz.ntmps8
  go_wp2_with (go_at_call 12;refine (HMd.out _).mono ?_;rintro e w1 ⟨rfl,hw⟩;obtain rfl:=hw.symm)
  go_ret
  exact ⟨rfl,rfl⟩
set_option maxHeartbeats 1000000 in
theorem EngineNil_any (W:World):Calls Tryz.prog 3 #[] W fun e w'=>e=.returned (.bool true)∧Below W.heap.size W w':=by
  have HR:Hid (∀ w,Calls Tryz.prog 6 #[.pointer none,.agg #[.bool false,.string ⟨#[79,98,106,101,99,116]⟩,.string ⟨#[102]⟩,.string ⟨#[40,41,86]⟩],.slice none 0 0,.int .i64 1] w fun e w'=>(∃ r,e=.returned (.tuple #[.agg #[.string ⟨#[]⟩,.int .i64 0,.bool false,.bool false,.int .i64 0,.int .i64 0],.int .i64 r])∧r=2)∧Below w.heap.size w w'):=fun w=>runNil_e _ _ _ _ _ _ w
  go_enter Tryz.func3,Tryz.ntmps3
  go_wp2_with (first
    | (go_at_call 4;refine (awake22_e _).mono ?_;rintro e w1 ⟨rfl,hb⟩;have B1:Hid (Below W.heap.size W w1):=hb;clear hb)
    | (go_at_call 5;refine (engNil_e 0 _).mono ?_;rintro e w2 ⟨rfl,hw⟩;obtain rfl:=hw.symm)
    | (go_at_call 6;refine (HR.out _).mono ?_;rintro e w3 ⟨⟨r,rfl,rfl⟩,hb⟩;have B3:Hid (Below W.heap.size W w3):=Below.step B1.out hb;clear hb)
    | (go_at_call 7;refine (cntNil_e _).mono ?_;rintro e w4 ⟨rfl,hw⟩;obtain rfl:=hw.symm)
    | (go_at_call 8;refine (rdsNil_e _).mono ?_;rintro e w5 ⟨rfl,hw⟩;obtain rfl:=hw.symm))
  go_ret
  exact ⟨rfl,B3.out.alloc B3.out.size _⟩
end Go.Proofs.YtdpodamnfpehkaaGreatDoor.Sk
