import Derived.Test.YtlohdfpinmdljaaGreatDoorEnWd
import Derived.Test.YtlohdfpinmdljaaGreatDoorTyC
import Derived.Defers
import Derived.Recover
set_option maxRecDepth 100000
namespace Go.Proofs.YtlohdfpinmdljaaGreatDoor.Sk
open Go.RowKit Go.Maps
theorem ity_c (W:World):Calls Tryz.prog 19 #[] W fun e w'=>e=.returned (.agg #[.int .i64 0,.string ⟨#[]⟩])∧Below W.heap.size W w':=by
  go_enter Tryz.func19,Tryz.ntmps19
  go_wp2
  refine bodyPost_ret (v:=.agg #[.int .i64 0,.string ⟨#[]⟩]) (by simp [results,Tryz.results19,go_sem]) rfl ⟨rfl,(by repeat (first|exact Below.refl _ _|refine Below.setCell ?_ (by simp;try omega) _|refine Below.alloc ?_ (by simp;try omega) _|refine Below.drew ?_))⟩
def EndR (K:Nat→Prop) (W w':World) (rb:Nat) (A:RA) (sp:Nat) (hs:Bool) (v:Int):Prop:=w'.heap[rb]?=some (.cells (runC A 0 sp hs false v) 88 (0,0))∧Tch (fun j=>K j∨j=rb∨j=A.fb) W w'
theorem run_set3 {w:World} {rb n sp:Nat} {A:RA} {hs vr:Bool} {vn:Int} (h:w.heap[rb]?=some (.cells (runC A n sp hs vr vn) 88 (0,0))) (m:Nat):(w.setCell ⟨rb,3,none⟩ (.slice (some ⟨A.fb,0,none⟩) m A.fc)).heap[rb]?=some (.cells (runC A m sp hs vr vn) 88 (0,0)):=by
  rw [Go.Joins.block_setCell h];rfl
theorem run_setV {w:World} {rb n sp:Nat} {A:RA} {hs vr:Bool} {vn:Int} (h:w.heap[rb]?=some (.cells (runC A n sp hs vr vn) 88 (0,0))) (b r:Bool) (x:Int):(((w.setCell ⟨rb,9,none⟩ (.bool b)).setCell ⟨rb,10,none⟩ (.bool r)).setCell ⟨rb,11,none⟩ (.int .i64 x)).heap[rb]?=some (.cells (runC A n sp b r x) 88 (0,0)):=by
  rw [Go.Joins.block_setCell (Go.Joins.block_setCell (Go.Joins.block_setCell h _) _)];rfl
set_option maxHeartbeats 1000000 in
theorem leave_e {W:World} {K:Nat→Prop} {rb:Nat} {A:RA} {sp nx:Nat} {p:PF} (h:RuAt W K rb A sp nx p) (vb c:Nat) (v:Int) (v0:W.cell? ⟨vb,0,none⟩=some (.bool false)) (v1:W.cell? ⟨vb,1,none⟩=some (.int .i64 v)) (hv:¬ K vb) (hvr:vb≠rb):Calls Tryz.prog 185 #[.pointer (some ⟨rb,0,none⟩),.slice (some ⟨vb,0,none⟩) 1 c] W fun e w'=>e=.returned (.tuple #[])∧EndR K W w' rb A sp true v:=by
  obtain ⟨c0,c2,c3,c6,c12,rz⟩:=h.c
  have hrl:=h.rl
  have hvl:=World.block_lt_of_cell? W _ v0
  have HR:Hid (W.heap[rb]?=some (.cells (runC A 1 sp false false 0) 88 (0,0))):=h.hr
  have NR:Hid (¬ K rb):=h.nr
  have NV:Hid (¬ K vb):=hv
  have HL:Hid (∀ w,Below W.heap.size W w→Calls Tryz.prog 242 #[.pointer (some ⟨A.sb,0,none⟩)] w fun e w'=>e=.returned (.int .i64 0)∧Tch K W w'):=fun w hb=>by
    obtain ⟨fs,fv,h1,h2⟩:=h.sk.below hb
    refine (lev_c h1).mono ?_
    rintro e w' ⟨rfl,hk⟩
    rw [h2]
    exact ⟨rfl,(hk.r.pre hb).choose_spec.2.2⟩
  have HC:Hid (∀ w:World,Calls Tryz.prog 72 #[.int .i64 0] w fun e w'=>e=.returned (.tuple #[])∧w'=w):=fun w=>chk_ok w
  have V0:Hid (W.cell? ⟨vb,0,none⟩=some (.bool false)):=v0
  have V1:Hid (W.cell? ⟨vb,1,none⟩=some (.int .i64 v)):=v1
  clear h v0 v1 hv
  go_enter Tryz.func185,Tryz.ntmps185
  go_upto_region 1 with (first
    | (go_at_call 72;refine (HC.out _).mono ?_;rintro e w2 ⟨rfl,hw⟩;obtain rfl:=hw.symm)
    | (go_at_call 242; refine (HL.out _ (by repeat (first | exact Below.refl _ _ | refine Below.setCell ?_ (by simp; try omega) _ | refine Below.alloc ?_ (by simp; try omega) _ | refine Below.drew ?_))).mono ?_; rintro e w1 ⟨rfl, ht⟩
       have T1:Hid (Tch K W w1):=ht
       have R1:Hid (w1.heap[rb]?=some (.cells (runC A 1 sp false false 0) 88 (0,0))):=(ht.blk rb hrl NR.out).trans HR.out
       have d3:w1.cell? ⟨rb,3,none⟩=some (.slice (some ⟨A.fb,0,none⟩) 1 A.fc):=(cell_of_row w1 rb 3 _ _ _ R1.out).trans rfl
       have dz:=fun k=>frozen_of_row w1 rb k _ _ R1.out
       have e0:w1.cell? ⟨vb,0,none⟩=some (.bool false):=tchCell ht NV.out V0.out
       have e1:w1.cell? ⟨vb,1,none⟩=some (.int .i64 v):=tchCell ht NV.out V1.out
       have z1:=ht.size
       have rl1:rb<w1.heap.size:=by omega
       have vl1:vb<w1.heap.size:=by omega
       clear ht HL))
  clear c0 c2 c3 c6 c12 rz
  go_region
  obtain ⟨X,hX⟩:∃ X,X=(w1.setCell ⟨rb,3,none⟩ (.slice (some ⟨A.fb,0,none⟩) 0 A.fc)).drew:=⟨_,rfl⟩
  have RX:Hid (X.heap[rb]?=some (.cells (runC A 0 sp false false 0) 88 (0,0))):=by rw [hX];exact run_set3 R1.out 0
  have TX:Hid (Tch (fun j=>K j∨j=rb∨j=A.fb) W X):=by
    rw [hX]
    exact ((T1.out.mono (fun _ _ x=>Or.inl x)).set (.inl (.inr (.inl rfl))) _).drew
  have vX:X.heap[vb]?=w1.heap[vb]?:=by rw [hX];exact Below.heap_setCell _ _ _ _ hvr
  have x3:X.cell? ⟨rb,3,none⟩=some (.slice (some ⟨A.fb,0,none⟩) 0 A.fc):=(cell_of_row X rb 3 _ _ _ RX.out).trans rfl
  have x9:X.cell? ⟨rb,9,none⟩=some (.bool false):=(cell_of_row X rb 9 _ _ _ RX.out).trans rfl
  have x10:X.cell? ⟨rb,10,none⟩=some (.bool false):=(cell_of_row X rb 10 _ _ _ RX.out).trans rfl
  have x11:X.cell? ⟨rb,11,none⟩=some (.int .i64 0):=(cell_of_row X rb 11 _ _ _ RX.out).trans rfl
  have xz:=fun k=>frozen_of_row X rb k _ _ RX.out
  have x0:X.cell? ⟨vb,0,none⟩=some (.bool false):=by rw [← e0];simp only [World.cell?,vX]
  have x1:X.cell? ⟨vb,1,none⟩=some (.int .i64 v):=by rw [← e1];simp only [World.cell?,vX]
  have zX:X.heap.size=w1.heap.size:=by rw [hX];simp
  have xl:rb<X.heap.size:=by omega
  have xv:vb<X.heap.size:=by omega
  have xn:¬ rb=X.heap.size:=by omega
  have xw:¬ vb=X.heap.size:=by omega
  rw [← hX]
  clear hX vX d3 dz e0 e1 rl1 vl1 T1 R1 HR V0 V1 NV zX z1
  go_wp2_with fail
  go_loopw [28] (fun iv wr=>iv=.int .i64 0∧Hid (wr=X)) (fun _ _=>0)
  case atStart=>exact ⟨rfl,rfl⟩
  case round =>
    obtain ⟨rfl,hwr⟩:=hrel
    have hwr2:=hwr.out
    clear hwr
    subst hwr2
    go_upto_region 6 with fail
    go_region
    all_goals (try go_wp2)
    refine bodyPost_ret (results_none rfl _ _ _) rfl ⟨rfl,?_,?_⟩
    · exact hkA (run_setV RX.out true false v)
    · refine Tch.drew (Tch.alloc (Tch.set (Tch.set (Tch.set TX.out ?_ _) ?_ _) ?_ _) _)
      · exact .inl (.inr (.inl rfl))
      · exact .inl (.inr (.inl rfl))
      · exact .inl (.inr (.inl rfl))
theorem four_kc {V w:World} {n:Nat} {t:TypeId} {a0 a1 a2 a3:Value} (hb:Below V.heap.size V w) (h:V.heap[n]?=some (.cells #[a0,a1,a2,a3] t (0,0))):w.heap[n]?=some (.cells #[a0,a1,a2,a3] t (0,0))∧w.cell? ⟨n,0,none⟩=some a0∧w.cell? ⟨n,1,none⟩=some a1∧w.cell? ⟨n,2,none⟩=some a2∧w.cell? ⟨n,3,none⟩=some a3∧(∀ k,w.frozen? ⟨n,k,none⟩=false)∧n<w.heap.size∧¬ n=w.heap.size:=by
  have hl:=(Array.getElem?_eq_some_iff.1 h).1
  have h2:=(hb.block n hl).trans h
  have:=(Array.getElem?_eq_some_iff.1 h2).1
  exact ⟨h2,(cell_of_row w n 0 _ _ _ h2).trans rfl,(cell_of_row w n 1 _ _ _ h2).trans rfl,(cell_of_row w n 2 _ _ _ h2).trans rfl,(cell_of_row w n 3 _ _ _ h2).trans rfl,fun k=>frozen_of_row w n k _ _ h2,this,by omega⟩
theorem desc_e {W:World} {rb fb fc:Nat} {ds:ByteArray} (c3:W.cell? ⟨rb,3,none⟩=some (.slice (some ⟨fb,0,none⟩) 1 fc)) (f1:W.cell? ⟨fb,1,none⟩=some (.string ds)) (vo:Bool) (x:Int) (s:ByteArray)
    (HP:Hid (∀ w,Calls Tryz.prog 18 #[.string ds] w fun e w'=>(∃ a k c,e=.returned (.tuple #[.agg #[.slice a k c,.bool vo,.int .i64 x,.string s],.int .i64 0]))∧Below w.heap.size w w')) :
    Calls Tryz.prog 184 #[.pointer (some ⟨rb,0,none⟩)] W fun e w'=>(∃ a k c,e=.returned (.agg #[.slice a k c,.bool vo,.int .i64 x,.string s]))∧Below W.heap.size W w':=by
  have hrl:rb<W.heap.size:=World.block_lt_of_cell? W _ c3
  have hfl:fb<W.heap.size:=World.block_lt_of_cell? W _ f1
  have HT:Hid (∀ w,Below W.heap.size W w→Calls Tryz.prog 48 #[.pointer (some ⟨rb,0,none⟩)] w fun e w'=>e=.returned (.pointer (some ⟨fb,0,none⟩))∧w'=w.drew):=fun w hb=>top_e ((hb.cell (p:=⟨rb,3,none⟩) hrl).trans c3)
  have HO:Hid (∀ a k c w,Calls Tryz.prog 177 #[.agg #[.slice a k c,.bool vo,.int .i64 x,.string s],.int .i64 0] w fun e w'=>e=.returned (.agg #[.slice a k c,.bool vo,.int .i64 x,.string s])∧Below w.heap.size w w'):=fun a k c w=>oT_d a k c vo x s w
  have hfn:¬ fb=W.heap.size:=by omega
  go_enter Tryz.func184,Tryz.ntmps184
  go_wp2_with (first
    | (go_at_call 48;refine (HT.out _ (by repeat (first|exact Below.refl _ _|refine Below.setCell ?_ (by simp;try omega) _|refine Below.alloc ?_ (by simp;try omega) _|refine Below.drew ?_))).mono ?_;rintro e w1 ⟨rfl,hw⟩;obtain rfl:=hw.symm)
    | (go_at_call 18;refine (HP.out _).mono ?_;rintro e w2 ⟨⟨a,k,c,rfl⟩,hb⟩;have B2:Hid (Below W.heap.size W w2):=Below.step (by repeat (first|exact Below.refl _ _|refine Below.setCell ?_ (by simp;try omega) _|refine Below.alloc ?_ (by simp;try omega) _|refine Below.drew ?_)) hb;have D2:=four_kc (n:=W.heap.size) hb (haA W _ rfl);clear hb)
    | (go_at_call 177;refine (HO.out _ _ _ _).mono ?_;rintro e w3 ⟨rfl,hb⟩;have B3:Hid (Below W.heap.size W w3):=Below.step B2.out hb;obtain ⟨zB,z0,z1,z2,z3,zf,zL,zN⟩:=four_kc (n:=W.heap.size) hb D2.1;clear hb B2 D2))
  refine bodyPost_ret (v:=.agg #[.slice a k c,.bool vo,.int .i64 x,.string s]) (by simp [results,Tryz.results184,go_sem, *]) rfl ⟨⟨_,_,_,rfl⟩,(by repeat (first|refine Below.setCell ?_ (by simp;try omega) _|refine Below.alloc ?_ (by have:=B3.out.size;simp;try omega) _|refine Below.drew ?_|exact B3.out))⟩
theorem wp_name {P:Program} {c:Code} {Q:Exit→Act→World→Prop} {a:Act} {w:World} (h:∀ U,U=w→c.wp P Q a U):c.wp P Q a w:=h w rfl
theorem EndR.pre {K K1:Nat→Prop} {W w w':World} {rb sp:Nat} {A:RA} {hs:Bool} {v:Int} (h:EndR K1 w w' rb A sp hs v) (hk:∀ j,K1 j→K j∨W.heap.size≤j) (ht:Tch K W w):EndR K W w' rb A sp hs v:=by
  obtain ⟨h1,h2⟩:=h
  refine ⟨h1,(ht.mono (fun _ _ x=>Or.inl x)).trans h2 (fun j hj x=>?_)⟩
  rcases x with x|x
  · exact (hk j x).elim .inl (fun y=>by omega)
  · exact .inr x
set_option maxHeartbeats 1000000 in
theorem retInt_e {W:World} {K:Nat→Prop} {rb:Nat} {A:RA} {sp nx:Nat} {p:PF} (h:RuAt W K rb A sp nx p) (ys:List (Bool×Int)) (v:Int) (hx:p.xs=ys++[(false,v)])
    (HP:Hid (∀ w,Calls Tryz.prog 18 #[.string A.ds] w fun e w'=>(∃ a k c,e=.returned (.tuple #[.agg #[.slice a k c,.bool false,.int .i64 0,.string ⟨#[]⟩],.int .i64 0]))∧Below w.heap.size w w')) :
    Calls Tryz.prog 106 #[.pointer (some ⟨rb,0,none⟩)] W fun e w'=>e=.returned (.tuple #[])∧EndR K W w' rb A sp true v:=by
  have HK:Hid (Calls Tryz.prog 156 #[.pointer (some ⟨rb,0,none⟩),.bool false] W fun e w'=>e=.returned (.agg #[.bool false,.int .i64 v])∧SkR K W w' A.sb [{ p with xs:=ys }]):=takeKind_e h.sk h.c.2.1 ys v hx
  have H0:Hid (RuAt W K rb A sp nx p):=h
  have HD:Hid (∀ K1 w,RuAt w K1 rb A sp nx { p with xs:=ys }→Calls Tryz.prog 184 #[.pointer (some ⟨rb,0,none⟩)] w fun e w'=>(∃ a k c,e=.returned (.agg #[.slice a k c,.bool false,.int .i64 0,.string ⟨#[]⟩]))∧Below w.heap.size w w'):=fun K1 w hr=>desc_e hr.c.2.2.1 hr.f.1 false 0 ⟨#[]⟩ HP
  have HI:Hid (∀ w,Calls Tryz.prog 19 #[] w fun e w'=>e=.returned (.agg #[.int .i64 0,.string ⟨#[]⟩])∧Below w.heap.size w w'):=fun w=>ity_c w
  have HN:Hid (∀ w,Calls Tryz.prog 49 #[.bool false,.int .i64 35] w fun e w'=>e=.returned (.tuple #[])∧w'=w):=fun w=>tif_no 35 w
  have HL:Hid (∀ K1 w vb c,RuAt w K1 rb A sp nx { p with xs:=ys }→w.cell? ⟨vb,0,none⟩=some (.bool false)→w.cell? ⟨vb,1,none⟩=some (.int .i64 v)→¬ K1 vb→vb≠rb→Calls Tryz.prog 185 #[.pointer (some ⟨rb,0,none⟩),.slice (some ⟨vb,0,none⟩) 1 c] w fun e w'=>e=.returned (.tuple #[])∧EndR K1 w w' rb A sp true v):=fun K1 w vb c hr c0 c1 hn hv=>leave_e hr vb c v c0 c1 hn hv
  clear h hx HP
  go_enter Tryz.func106,Tryz.ntmps106
  go_upto_region 2 with (first
    | (go_at_call 184;refine (HD.out K1 _ (R1.out.below (by repeat (first|exact Below.refl _ _|refine Below.setCell ?_ (by simp;try omega) _|refine Below.alloc ?_ (by simp;try omega) _|refine Below.drew ?_)))).mono ?_;rintro e w2 ⟨⟨a,k,c,rfl⟩,hb⟩;have B2:Hid (Below w1.heap.size w1 w2):=Below.step (by repeat (first|exact Below.refl _ _|refine Below.setCell ?_ (by simp;try omega) _|refine Below.alloc ?_ (by simp;try omega) _|refine Below.drew ?_)) hb;obtain ⟨vB,v0,v1,vf,vL,vN⟩:=k2c (n:=w1.heap.size) hb;clear hb HD)
    | (go_at_call 156; refine HK.out.mono ?_; rintro e w1 ⟨rfl, hk⟩
       obtain ⟨K1,s1,a1,t1⟩:=hk
       have R1:Hid (RuAt w1 K1 rb A sp nx { p with xs:=ys }):=H0.out.keep s1 a1 t1.size t1.blk
       have A1:Hid (∀ j,K1 j→K j∨W.heap.size≤j):=a1
       have T1:Hid (Tch K W w1):=t1
       have L1:Hid (∀ j,K1 j→j<w1.heap.size):=fun j hj=>s1.lt hj
       have rl:rb<w1.heap.size:=R1.out.rl
       clear s1 a1 t1 HK H0))
  refine wp_name (fun U hU=>?_)
  have HU:Hid (U=_):=hU
  have d1:U.cell? ⟨w2.heap.size,1,none⟩=some (.bool false):=by rw [hU];simp
  have d2:U.cell? ⟨w2.heap.size,2,none⟩=some (.int .i64 0):=by rw [hU];simp
  have d3:U.cell? ⟨w2.heap.size,3,none⟩=some (.string ⟨#[]⟩):=by rw [hU];simp
  have BU:Hid (Below w1.heap.size w1 U):=by rw [hU];exact B2.out.alloc B2.out.size _
  have g0:U.cell? ⟨w1.heap.size,0,none⟩=some (.bool false):=by rw [hU];exact (World.cell?_alloc_lt _ _ _ vL).trans v0
  have g1:U.cell? ⟨w1.heap.size,1,none⟩=some (.int .i64 v):=by rw [hU];exact (World.cell?_alloc_lt _ _ _ vL).trans v1
  have dL:w2.heap.size<U.heap.size:=by rw [hU];simp
  have gL:w1.heap.size<U.heap.size:=by omega
  clear hU HU B2 vB v0 v1 vf
  obtain ⟨σ,V,hne,V1,V2⟩:=class_of' (fun w'=>Below U.heap.size U w') ⟨_,Below.refl _ _⟩
  have e1:=fun q=>((V1.out q).cell (p:=⟨w2.heap.size,1,none⟩) dL).trans d1
  have e2:=fun q=>((V1.out q).cell (p:=⟨w2.heap.size,2,none⟩) dL).trans d2
  have e3:=fun q=>((V1.out q).cell (p:=⟨w2.heap.size,3,none⟩) dL).trans d3
  have HVI:Hid (∀ q,Calls Tryz.prog 19 #[] (V q) fun e w'=>e=.returned (.agg #[.int .i64 0,.string ⟨#[]⟩])∧∃ q',w'=V q'):=fun q=>(HI.out _).mono fun e w' ⟨h1,h2⟩=>⟨h1,V2.out _ (Below.step (V1.out q) h2)⟩
  have HVN:Hid (∀ q,Calls Tryz.prog 49 #[.bool false,.int .i64 35] (V q) fun e w'=>e=.returned (.tuple #[])∧∃ q',w'=V q'):=fun q=>(HN.out _).mono fun e w' ⟨h1,h2⟩=>⟨h1,q,h2⟩
  refine wp_region_class (C:=fun w'=>∃ q,w'=V q) (by kernel_rfl) (by kernel_rfl) (V2.out _ (Below.refl _ _).drew) ?_
  repeat (go_big_quiet_step (first|(go_at_call 19;exact HVI.out _)|(go_at_call 49;exact HVN.out _)))
  refine wpQuiet_nil ?_
  intro w9 hw9
  obtain ⟨s9,rfl⟩:=hw9
  have B9:Hid (Below w1.heap.size w1 (V s9)):=Below.step BU.out (V1.out s9)
  have y0:(V s9).cell? ⟨w1.heap.size,0,none⟩=some (.bool false):=((V1.out s9).cell (p:=⟨w1.heap.size,0,none⟩) gL).trans g0
  have y1:(V s9).cell? ⟨w1.heap.size,1,none⟩=some (.int .i64 v):=((V1.out s9).cell (p:=⟨w1.heap.size,1,none⟩) gL).trans g1
  have yz:w1.heap.size≤(V s9).heap.size:=B9.out.size
  clear e1 e2 e3 HVI HVN V2 d1 d2 d3 g0 g1
  go_wp2_with (go_at_call 185;refine (HL.out K1 _ _ _ (R1.out.below (B9.out.alloc B9.out.size _)) (by simp) (by simp) (fun x=>by have:=L1.out _ x;omega) (by omega)).mono ?_;rintro e w8 ⟨rfl,hq⟩)
  exact bodyPost_end (results_none rfl _ _ _) rfl ⟨rfl,hq.pre (fun j hj=>(A1.out j hj)) (T1.out.bel (B9.out.alloc B9.out.size _))⟩
def RuR (K:Nat→Prop) (W w':World) (rb:Nat) (A:RA) (sp nx:Nat) (p:PF):Prop:=∃ K',RuAt w' K' rb A sp nx p∧(∀ j,K' j→K j∨W.heap.size≤j)∧Tch (fun j=>K j∨j=rb∨j=A.fb) W w'
theorem ruR_of {K:Nat→Prop} {W w2 w':World} {rb:Nat} {A:RA} {sp nx:Nat} {p q:PF} (hr:RuAt w2 K rb A sp nx p) (ht:Tch (fun j=>j=rb∨j=A.fb) W w2) (hk:SkR K w2 w' A.sb [q]):RuR K W w' rb A sp nx q:=by
  obtain ⟨K',s1,a1,t1⟩:=hk
  have hz:=ht.size
  refine ⟨K',hr.keep s1 a1 t1.size t1.blk,fun j hj=>(a1 j hj).imp id (fun x=>by omega),?_⟩
  exact (ht.mono (fun _ _ x=>Or.inr x)).trans t1 (fun _ _ x=>Or.inl x)
theorem stp_load {W:World} {K:Nat→Prop} {rb:Nat} {A:RA} {sp nx:Nat} {p:PF} (h:RuAt W K rb A sp nx p) (n:Nat) (v:Int) (hi:A.code[nx]?=some (2,(n:Int))) (hz:A.code.length≤1000) (hsp:(sp:Int)<A.fu) (hfu:A.fu≤100000) (hl:p.ls[n]?=some (false,v)) (hr:p.xs.length<p.rm) :
    Calls Tryz.prog 26 #[.pointer (some ⟨rb,0,none⟩)] W fun e w'=>e=.returned (.tuple #[])∧RuR K W w' rb A (sp+1) (nx+1) { p with xs:=p.xs++[(false,v)] } :=
  step_e h 2 n hi hz hsp hfu _ (.inl rfl) _ fun _ hw ht=>do_load fun _ hb=>(load_e (hw.below hb).sk (hw.below hb).c.2.1 n v hl hr _ _ _ _ _).mono fun _ _ x=>⟨x.1,ruR_of (hw.below hb) (ht.bel hb) x.2⟩
theorem stp_iconst {W:World} {K:Nat→Prop} {rb:Nat} {A:RA} {sp nx:Nat} {p:PF} (h:RuAt W K rb A sp nx p) (n:Int) (hi:A.code[nx]?=some (1,n)) (hz:A.code.length≤1000) (hsp:(sp:Int)<A.fu) (hfu:A.fu≤100000) (hr:p.xs.length<p.rm) :
    Calls Tryz.prog 26 #[.pointer (some ⟨rb,0,none⟩)] W fun e w'=>e=.returned (.tuple #[])∧RuR K W w' rb A (sp+1) (nx+1) { p with xs:=p.xs++[(false,n)] } :=
  step_e h 1 n hi hz hsp hfu _ (.inl rfl) _ fun _ hw ht=>do_iconst fun _ hb=>(putInt_e (hw.below hb).sk (hw.below hb).c.2.1 hr n).mono fun _ _ x=>⟨x.1,ruR_of (hw.below hb) (ht.bel hb) x.2⟩
theorem stp_comp {W:World} {K:Nat→Prop} {rb:Nat} {A:RA} {sp nx:Nat} {p:PF} (h:RuAt W K rb A sp nx p) (op n:Int) (hi:A.code[nx]?=some (op,n)) (hz:A.code.length≤1000) (hsp:(sp:Int)<A.fu) (hfu:A.fu≤100000) (ys:List (Bool×Int)) (a b:Int) (hx:p.xs=ys++[(false,a),(false,b)]) (hr:ys.length<p.rm) (ho:op=7∨op=8∨op=9∨op=10∧¬ b=0) (ha:I32 a) (hb:I32 b) :
    Calls Tryz.prog 26 #[.pointer (some ⟨rb,0,none⟩)] W fun e w'=>e=.returned (.tuple #[])∧RuR K W w' rb A (sp+1) (nx+1) { p with xs:=ys++[(false,wrap32 (cmpI op a b))] } :=
  step_e h op n hi hz hsp hfu _ (.inl rfl) _ fun _ hw ht=>do_comp (by rcases ho with h|h|h|⟨h,_⟩ <;> simp [h]) fun _ hb2=>(comp_e (hw.below hb2).sk (hw.below hb2).nr (hw.below hb2).c.2.1 ys op a b hx hr ho ha hb).mono fun _ _ x=>⟨x.1,ruR_of (hw.below hb2) (ht.bel hb2) x.2⟩
theorem stp_ret {W:World} {K:Nat→Prop} {rb:Nat} {A:RA} {sp nx:Nat} {p:PF} (h:RuAt W K rb A sp nx p) (n:Int) (hi:A.code[nx]?=some (36,n)) (hz:A.code.length≤1000) (hsp:(sp:Int)<A.fu) (hfu:A.fu≤100000) (ys:List (Bool×Int)) (v:Int) (hx:p.xs=ys++[(false,v)])
    (HP:Hid (∀ w,Calls Tryz.prog 18 #[.string A.ds] w fun e w'=>(∃ a k c,e=.returned (.tuple #[.agg #[.slice a k c,.bool false,.int .i64 0,.string ⟨#[]⟩],.int .i64 0]))∧Below w.heap.size w w')) :
    Calls Tryz.prog 26 #[.pointer (some ⟨rb,0,none⟩)] W fun e w'=>e=.returned (.tuple #[])∧EndR K W w' rb A (sp+1) true v :=
  step_e h 36 n hi hz hsp hfu _ (.inl rfl) _ fun _ hw ht=>do_ireturn fun _ hb=>(retInt_e (hw.below hb) ys v hx HP).mono fun _ _ x=>⟨x.1,x.2.1,by
    have t:=ht.bel hb
    exact (t.mono (fun _ _ x=>Or.inr x)).trans x.2.2 (fun _ _ x=>x)⟩
def spOf (rb:Nat) (w:World):Nat:=match w.cell? ⟨rb,12,none⟩ with
  | some (.int _ x)=>x.toNat
  | _=>0
theorem RuAt.sp {w:World} {K:Nat→Prop} {rb:Nat} {A:RA} {sp nx:Nat} {p:PF} (h:RuAt w K rb A sp nx p):spOf rb w=sp:=by
  rw [spOf,h.c.2.2.2.2.1];simp
theorem run_sp {w:World} {rb n sp:Nat} {A:RA} {hs vr:Bool} {vn:Int} (h:w.heap[rb]?=some (.cells (runC A n sp hs vr vn) 88 (0,0))):spOf rb w=sp:=by
  rw [spOf,show w.cell? ⟨rb,12,none⟩=some (.int .i64 (sp:Int)) from (cell_of_row w rb 12 _ _ _ h).trans rfl];simp
def LpI (W:World) (rb sb:Nat) (A:RA) (nx:Nat→Nat) (ps:Nat→PF) (M:Nat) (F:World→Prop) (w:World):Prop :=
  Tch (fun j=>j=sb∨j=rb) W w∧((∃ k K,k≤M∧RuAt w K rb A k (nx k) (ps k)∧∀ j,K j→j=sb∨W.heap.size≤j)∨F w)
theorem lp_tch {K:Nat→Prop} {W w w':World} {rb sb fb:Nat} (h:Tch (fun j=>j=sb∨j=rb) W w) (ht:Tch (fun j=>K j∨j=rb∨j=fb) w w') (h2:W.heap.size≤fb) (h3:∀ j,K j→j=sb∨W.heap.size≤j):Tch (fun j=>j=sb∨j=rb) W w' :=
  h.trans ht (fun j hj x=>by
    rcases x with x|rfl|rfl
    · exact (h3 j x).elim .inl (fun y=>absurd y (by omega))
    · exact .inr rfl
    · exact absurd h2 (by omega))
def FinR (rb:Nat) (A:RA) (M:Nat) (v:Int) (w:World):Prop:=w.heap[rb]?=some (.cells (runC A 0 (M+1) true false v) 88 (0,0))
set_option maxHeartbeats 1000000 in
theorem whole1_ret {W:World} {rb sb bb mb ab:Nat} {q1 q2 q3:ByteArray} {av:Value} (b0:W.cell? ⟨bb,0,none⟩=some (.pointer (some ⟨rb,0,none⟩))) (m0:W.cell? ⟨mb,0,none⟩=some (.bool false)) (m1:W.cell? ⟨mb,1,none⟩=some (.string q1)) (m2:W.cell? ⟨mb,2,none⟩=some (.string q2)) (m3:W.cell? ⟨mb,3,none⟩=some (.string q3)) (a0:W.cell? ⟨ab,0,none⟩=some av)
    (GA:RA→Prop) (nx:Nat→Nat) (ps:Nat→PF) (M:Nat) (v:Int) (hbr:bb≠rb) (hbs:bb≠sb)
    (HB:Hid (Calls Tryz.prog 25 #[.pointer (some ⟨rb,0,none⟩),.agg #[.bool false,.string q1,.string q2,.string q3],av] W fun e w'=>e=.returned (.tuple #[])∧∃ A K,GA A∧RuAt w' K rb A 0 (nx 0) (ps 0)∧W.heap.size≤A.fb∧(∀ j,K j→j=sb∨W.heap.size≤j)∧Tch (fun j=>j=sb∨j=rb) W w'))
    (HS:Hid (∀ A,GA A→∀ k,k<M→∀ K w,RuAt w K rb A k (nx k) (ps k)→Calls Tryz.prog 26 #[.pointer (some ⟨rb,0,none⟩)] w fun e w'=>e=.returned (.tuple #[])∧RuR K w w' rb A (k+1) (nx (k+1)) (ps (k+1))))
    (HE:Hid (∀ A,GA A→∀ K w,RuAt w K rb A M (nx M) (ps M)→Calls Tryz.prog 26 #[.pointer (some ⟨rb,0,none⟩)] w fun e w'=>e=.returned (.tuple #[])∧EndR K w w' rb A (M+1) true v)) :
    Calls Tryz.prog 24 #[.pointer (some ⟨bb,0,none⟩),.pointer (some ⟨mb,0,none⟩),.pointer (some ⟨ab,0,none⟩)] W fun e w'=>e=.returned (.tuple #[])∧Tch (fun j=>j=sb∨j=rb) W w'∧∃ A,GA A∧FinR rb A M v w':=by
  have HZ:Hid (¬ (bb=sb∨bb=rb)∧W.cell? ⟨bb,0,none⟩=some (.pointer (some ⟨rb,0,none⟩))):=⟨fun x=>x.elim hbs hbr,b0⟩
  go_enter Tryz.func24,Tryz.ntmps24
  go_wp2_with (first
    | (go_at_call 25; refine HB.out.mono ?_; rintro e w1 ⟨rfl, A, K, hga, hru, hfN, hKN, hbl⟩
       have HGA:Hid (GA A):=hga
       have HF:Hid (W.heap.size≤A.fb):=hfN
       have L1:Hid (LpI W rb sb A nx ps M (FinR rb A M v) w1):=⟨hbl,.inl ⟨0,K,Nat.zero_le _,hru,hKN⟩⟩
       clear hga hru hfN hKN hbl HB))
  clear b0 m0 m1 m2 m3 a0 hbr hbs
  go_loopw [] (fun wr=>Hid (LpI W rb sb A nx ps M (FinR rb A M v) wr)) (fun wr=>M+2 - spOf rb wr)
  case atStart=>exact L1
  case round =>
    clear L1
    obtain ⟨hbl,hst⟩:=hrel.out
    have hbc:wr.cell? ⟨bb,0,none⟩=some (.pointer (some ⟨rb,0,none⟩)):=tchCell hbl HZ.out.1 HZ.out.2
    have HBL:Hid (Tch (fun j=>j=sb∨j=rb) W wr):=hbl
    clear hrel hbl
    have hbb:bb<wr.heap.size:=World.block_lt_of_cell? wr _ hbc
    rcases hst with ⟨k,K,hk,hru,hKN⟩|hen
    · have c3:=hru.c.2.2.1
      have HK:Hid (∀ j,K j→j=sb∨W.heap.size≤j):=hKN
      have hsp:=hru.sp
      have HSP:Hid (spOf rb wr=k):=hsp
      have hzW:W.heap.size≤wr.heap.size:=HBL.out.size
      by_cases hkM:k<M
      · have HX:Hid (Calls Tryz.prog 26 #[.pointer (some ⟨rb,0,none⟩)] wr fun e w'=>e=.returned (.tuple #[])∧LpI W rb sb A nx ps M (FinR rb A M v) w'∧spOf rb w'=k+1):=(HS.out A HGA.out k hkM K wr hru).mono fun e w' ⟨h1,K',h2,h3,h4⟩ =>
          ⟨h1,⟨lp_tch HBL.out h4 HF.out HK.out,.inl ⟨k+1,K',hkM,h2,fun j hj=>(h3 j hj).elim (HK.out j) (fun y=>.inr (Nat.le_trans hzW y))⟩⟩,h2.sp⟩
        clear hru hKN HS HE hsp
        go_wp2_with (go_at_call 26;refine HX.out.mono ?_;rintro e w2 ⟨rfl,hl,hs2⟩)
        go_roundw
        case rel=>exact hl
        case measure=>have:=HSP.out;omega
      · obtain rfl:k=M:=by omega
        have HX:Hid (Calls Tryz.prog 26 #[.pointer (some ⟨rb,0,none⟩)] wr fun e w'=>e=.returned (.tuple #[])∧LpI W rb sb A nx ps k (FinR rb A k v) w'∧spOf rb w'=k+1):=(HE.out A HGA.out K wr hru).mono fun e w' ⟨h1,h2,h4⟩ =>
          ⟨h1,⟨lp_tch HBL.out h4 HF.out HK.out,.inr h2⟩,run_sp h2⟩
        clear hru hKN HS HE hsp
        go_wp2_with (go_at_call 26;refine HX.out.mono ?_;rintro e w2 ⟨rfl,hl,hs2⟩)
        go_roundw
        case rel=>exact hl
        case measure=>have:=HSP.out;omega
    · have c3:wr.cell? ⟨rb,3,none⟩=some (.slice (some ⟨A.fb,0,none⟩) 0 A.fc):=(cell_of_row wr rb 3 _ _ _ hen).trans rfl
      have HEN:Hid (FinR rb A M v wr):=hen
      clear hen HS HE
      go_wp2
      exact bodyPost_end (results_none rfl _ _ _) rfl ⟨rfl,HBL.out,A,HGA.out,HEN.out⟩
theorem catch_idle (p:Addr) (w:World):CallsD Tryz.prog 43 #[.pointer (some p)] .returning w fun e u' w'=>e=.returned (.tuple #[])∧u'=.returning∧w'=w:=by
  refine callsD_of_wpS Tryz.func43 rfl fun c₀ cs hu=>?_
  apply wpS_seq
  apply wpS_region
  simp [wpOpsS,go_sem,recoverD,hu,Tryz.ntmps43,Exit.thenS]
  have hnil:∀ w:World,(binOp BinOp.eql 20 .nilIface .nilIface).run Tryz.prog w=.ok (.bool true) w:=fun _=>by kernel_rfl
  refine wpS_of_wp ?_
  go_wp2
  cases c₀
  simp_all [bodyPostS,results,Tryz.results43]
theorem caught_ok {W:World} {v1 v2 v3:Value} {P:World→World→Prop} (HW:Hid (∀ w,Below W.heap.size W w→Calls Tryz.prog 24 #[v1,v2,v3] w fun e w'=>e=.returned (.tuple #[])∧P w w')) (hP:∀ w w',W.heap.size<w.heap.size→P w w'→w'.heap[W.heap.size]?=w.heap[W.heap.size]?):Calls Tryz.prog 23 #[.func (.func 24) #[] #[v1,v2,v3]] W fun e w'=>e=.returned (.int .i64 0)∧∃ w1,P (W.alloc (.cells #[.int .i64 0] 30)) w1∧w'=w1.setCell ⟨W.heap.size,0,none⟩ (.int .i64 0):=by
  have hmf:∀ (fn:Fn) (first cap:Array Value) (w:World),(Instr.makeFunc fn first cap).run Tryz.prog w=.ok (.func fn first cap) w:=fun _ _ _ _=>rfl
  go_enter_defers Tryz.func23,Tryz.ntmps23
  go_wp2_with (go_at_call 24;refine (HW.out _ (by repeat (first|exact Below.refl _ _|refine Below.setCell ?_ (by simp;try omega) _|refine Below.alloc ?_ (by simp;try omega) _|refine Below.drew ?_))).mono ?_;rintro e w1 ⟨rfl,hp⟩;have e1:=hP _ _ (by simp) hp;have q1:w1.heap[W.heap.size]?=some (.cells #[.int .i64 0] 30 (0,0)):=e1.trans (halloc1 _ _);obtain ⟨z0,zf,zL⟩:=r1c q1)
  refine leaves_cons (f:=43) (args:=#[.pointer (some ⟨W.heap.size,0,none⟩)]) (by simp) (by simp [go_sem]) ?_
  refine (catch_idle ⟨W.heap.size,0,none⟩ _).mono ?_
  rintro e u' w'' ⟨rfl,rfl,rfl⟩
  have zs:(w1.setCell ⟨W.heap.size,0,none⟩ (.int .i64 0)).cell? ⟨W.heap.size,0,none⟩=some (.int .i64 0):=(cell_of_row _ _ 0 _ _ _ (Go.Joins.block_setCell q1 _)).trans rfl
  simp [Leaves,settle,results,Tryz.results23,go_sem]
  simp only [zs]
  exact ⟨_,rfl,rfl,w1,hp,rfl⟩
theorem bstr_none {W:World} {rb:Nat} (h:W.cell? ⟨rb,5,none⟩=some (.slice none 0 0)):Calls Tryz.prog 27 #[.pointer (some ⟨rb,4,none⟩)] W fun e w'=>e=.returned (.string ⟨#[]⟩)∧w'=W.drew:=by
  have hSD:∀ w:World,(Builtin.unsafeSliceData_ #[55] 151 #[.slice none 0 0]).run Tryz.prog w=.ok (.pointer none) w:=fun _=>rfl
  have hUS:∀ w:World,(Builtin.unsafeString_ #[151,3] 9 #[.pointer none,.int .i64 0]).run Tryz.prog w=.ok (.string ⟨#[]⟩) w:=fun _=>rfl
  go_enter Tryz.func27,Tryz.ntmps27
  go_upto_region 1 with fail
  go_region
  all_goals go_wp2
  all_goals go_ret
  all_goals exact ⟨rfl,rfl⟩
def resV (th:Int) (hs:Bool) (v:Int) (sp:Nat):Value:=.agg #[.string ⟨#[]⟩,.int .i64 th,.bool hs,.bool false,.int .i64 v,.int .i64 (sp:Int)]
set_option maxHeartbeats 2000000 in
theorem whole_ret {W:World} {rb sb:Nat} {q1 q2 q3:ByteArray} {a:Option Addr} {an ac:Nat} (hrl:rb<W.heap.size) (hsl:sb<W.heap.size) (hrs:rb≠sb)
    (GA:RA→Prop) (hGA:∀ A,GA A→A.bb=.slice none 0 0) (nx:Nat→Nat) (ps:Nat→PF) (M:Nat) (v:Int)
    (HB:Hid (∀ w,Below W.heap.size W w→Calls Tryz.prog 25 #[.pointer (some ⟨rb,0,none⟩),.agg #[.bool false,.string q1,.string q2,.string q3],.slice a an ac] w fun e w'=>e=.returned (.tuple #[])∧∃ A K,GA A∧RuAt w' K rb A 0 (nx 0) (ps 0)∧w.heap.size≤A.fb∧(∀ j,K j→j=sb∨w.heap.size≤j)∧Tch (fun j=>j=sb∨j=rb) w w'))
    (HS:Hid (∀ A,GA A→∀ k,k<M→∀ K w,RuAt w K rb A k (nx k) (ps k)→Calls Tryz.prog 26 #[.pointer (some ⟨rb,0,none⟩)] w fun e w'=>e=.returned (.tuple #[])∧RuR K w w' rb A (k+1) (nx (k+1)) (ps (k+1))))
    (HE:Hid (∀ A,GA A→∀ K w,RuAt w K rb A M (nx M) (ps M)→Calls Tryz.prog 26 #[.pointer (some ⟨rb,0,none⟩)] w fun e w'=>e=.returned (.tuple #[])∧EndR K w w' rb A (M+1) true v)) :
    Calls Tryz.prog 12 #[.pointer (some ⟨rb,0,none⟩),.agg #[.bool false,.string q1,.string q2,.string q3],.slice a an ac] W fun e w'=>e=.returned (resV 0 true v (M+1))∧Tch (fun j=>j=sb∨j=rb) W w':=by
  have hmf:∀ (fn:Fn) (first cap:Array Value) (w:World),(Instr.makeFunc fn first cap).run Tryz.prog w=.ok (.func fn first cap) w:=fun _ _ _ _=>rfl
  go_enter Tryz.func12,Tryz.ntmps12
  go_upto_region 1 with fail
  refine wp_name (fun U hU=>?_)
  have zU:U.heap.size=W.heap.size+4:=by rw [hU];simp
  have r0:U.heap[W.heap.size]?=some (.cells #[.pointer (some ⟨rb,0,none⟩)] 51 (0,0)):=by rw [hU];exact hkA (hkA (hkA (haA W _ rfl)))
  have r1:U.heap[W.heap.size+1]?=some (.cells #[.bool false,.string q1,.string q2,.string q3] 26 (0,0)):=by rw [hU];exact hkA (hkA (haA (W.alloc _) _ (by rw [szA])))
  have r2:U.heap[W.heap.size+2]?=some (.cells #[.slice a an ac] 37 (0,0)):=by rw [hU];exact hkA (haA ((W.alloc _).alloc _) _ (by rw [szA,szA]))
  have rU:U.heap[W.heap.size+3]?=some (.cells #[.string ⟨#[]⟩,.int .i64 0,.bool false,.bool false,.int .i64 0,.int .i64 0] 34 (0,0)):=by rw [hU];exact haA (((W.alloc _).alloc _).alloc _) _ (by rw [szA,szA,szA])
  have u0:U.cell? ⟨W.heap.size,0,none⟩=some (.pointer (some ⟨rb,0,none⟩)):=(cell_of_row U _ 0 _ _ _ r0).trans rfl
  have m0:U.cell? ⟨W.heap.size+1,0,none⟩=some (.bool false):=(cell_of_row U _ 0 _ _ _ r1).trans rfl
  have m1:U.cell? ⟨W.heap.size+1,1,none⟩=some (.string q1):=(cell_of_row U _ 1 _ _ _ r1).trans rfl
  have m2:U.cell? ⟨W.heap.size+1,2,none⟩=some (.string q2):=(cell_of_row U _ 2 _ _ _ r1).trans rfl
  have m3:U.cell? ⟨W.heap.size+1,3,none⟩=some (.string q3):=(cell_of_row U _ 3 _ _ _ r1).trans rfl
  have a0:U.cell? ⟨W.heap.size+2,0,none⟩=some (.slice a an ac):=(cell_of_row U _ 0 _ _ _ r2).trans rfl
  have BU:Hid (Below W.heap.size W U):=by
    rw [hU]
    exact ((((Below.refl _ _).alloc (Nat.le_refl _) _).alloc (by rw [szA];omega) _).alloc (by rw [szA,szA];omega) _).alloc (by rw [szA,szA,szA];omega) _
  clear r0 r1 r2
  have U0:Hid (U.cell? ⟨W.heap.size,0,none⟩=some (.pointer (some ⟨rb,0,none⟩))):=u0
  have RU:Hid (U.heap[W.heap.size+3]?=some (.cells #[.string ⟨#[]⟩,.int .i64 0,.bool false,.bool false,.int .i64 0,.int .i64 0] 34 (0,0))):=rU
  have ND:Hid (∀ j,W.heap.size≤j→¬ (j=sb∨j=rb)):=fun j hj x=>by rcases x with rfl|rfl <;> omega
  have HC:Hid (∀ w,Below U.heap.size U w→Calls Tryz.prog 23 #[.func (.func 24) #[] #[.pointer (some ⟨W.heap.size,0,none⟩),.pointer (some ⟨W.heap.size+1,0,none⟩),.pointer (some ⟨W.heap.size+2,0,none⟩)]] w fun e w'=>e=.returned (.int .i64 0)∧(∃ A,GA A∧FinR rb A M v w')∧Tch (fun j=>j=sb∨j=rb) w w'):=fun w hw=>by
    have hz:=hw.size
    refine (caught_ok (P:=fun w w'=>Tch (fun j=>j=sb∨j=rb) w w'∧∃ A,GA A∧FinR rb A M v w') (fun w2 hb=>?_) (fun w2 w3 hz2 hp=>hp.1.blk _ hz2 (ND.out _ (by omega)))).mono ?_
    · have hUw:Below U.heap.size U w2:=Below.step hw hb
      refine whole1_ret (kc hUw u0) (kc hUw m0) (kc hUw m1) (kc hUw m2) (kc hUw m3) (kc hUw a0) GA nx ps M v (by omega) (by omega) ?_ HS HE
      exact HB.out w2 (Below.step BU.out hUw)
    · rintro e w' ⟨rfl,w1,⟨ht,A,hga,hfin⟩,rfl⟩
      have t2:Tch (fun j=>j=sb∨j=rb) w w1:=((Tch.refl _ w).alloc _).trans ht (fun _ _ x=>x)
      refine ⟨rfl,⟨A,hga,?_⟩,t2.set (.inr (Nat.le_refl _)) _⟩
      exact (Below.heap_setCell _ _ _ _ (by simp;omega)).trans hfin
  have zr:¬ W.heap.size+3=rb:=by omega
  have zr2:¬ W.heap.size+3=sb:=by omega
  clear hU u0 m0 m1 m2 m3 a0 rU HB HS HE
  go_cut [] (fun wx=>Hid ((∃ A,GA A∧FinR rb A M v wx)∧Tch (fun j=>j=sb∨j=rb) U wx))
  case first =>
    have u0:=U0.out
    go_region_with (go_at_call 23;refine (HC.out _ (by first|exact Below.refl _ _|exact (Below.refl _ _).drew)).mono ?_;rintro e w1 ⟨rfl,⟨A,hga,hfin⟩,ht⟩;have hga2:Hid (GA A):=hga;have hfin2:Hid (FinR rb A M v w1):=hfin;have ht2:Hid (Tch (fun j=>j=sb∨j=rb) U w1):=(Tch.drew (Tch.refl _ U)).trans ht (fun _ _ x=>x);have x0:w1.cell? ⟨W.heap.size,0,none⟩=some (.pointer (some ⟨rb,0,none⟩)):=tchCell ht2.out (ND.out _ (Nat.le_refl _)) U0.out;have y8:w1.cell? ⟨rb,8,none⟩=some (.int .i64 0):=(cell_of_row w1 rb 8 _ _ _ hfin).trans rfl;have yz:=fun k=>frozen_of_row w1 rb k _ _ hfin;clear hga hfin ht)
    all_goals (go_wp2_with fail)
    all_goals go_meet
    all_goals exact ⟨⟨A,hga2.out,(Go.Joins.block_setCell hfin2.out _).trans rfl⟩,ht2.out.set (.inl (.inr rfl)) _⟩
  case rest =>
    obtain ⟨⟨A,hga,hfin⟩,ht⟩:=hcut.out
    clear hcut HC
    have HG:Hid (GA A):=hga
    go_upto_region 2 with fail
    go_cut [] (fun wx=>Hid (FinR rb A M v wx∧Tch (fun j=>j=sb∨j=rb) U wx))
    case first =>
      have x0:wc.cell? ⟨W.heap.size,0,none⟩=some (.pointer (some ⟨rb,0,none⟩)):=tchCell ht (ND.out _ (Nat.le_refl _)) U0.out
      have y5:wc.cell? ⟨rb,5,none⟩=some (.slice none 0 0):=((cell_of_row wc rb 5 _ _ _ hfin).trans rfl).trans (congrArg some (hGA A hga))
      have y7:wc.cell? ⟨rb,7,none⟩=some (.string ⟨#[]⟩):=(cell_of_row wc rb 7 _ _ _ hfin).trans rfl
      have yz:=fun k=>frozen_of_row wc rb k _ _ hfin
      have HFI:Hid (FinR rb A M v wc):=hfin
      have HTI:Hid (Tch (fun j=>j=sb∨j=rb) U wc):=ht
      have HS5:Hid (∀ w,w.cell? ⟨rb,5,none⟩=some (.slice none 0 0)→Calls Tryz.prog 27 #[.pointer (some ⟨rb,4,none⟩)] w fun e w'=>e=.returned (.string ⟨#[]⟩)∧w'=w.drew):=fun w h=>bstr_none h
      have hrl2:rb<wc.heap.size:=World.block_lt_of_cell? wc _ y7
      clear hfin ht hga
      go_region_with (go_at_call 27;refine (HS5.out _ (by first|exact y5|(simp;exact y5))).mono ?_;rintro e w1 ⟨rfl,hw⟩;obtain rfl:=hw.symm)
      all_goals (go_wp2_with fail)
      all_goals go_meet
      all_goals exact ⟨(Go.Joins.block_setCell HFI.out _).trans rfl,((HTI.out.set (.inl (.inr rfl)) _).drew).drew⟩
    case rest =>
      obtain ⟨hfin,ht⟩:=hcut.out
      clear hcut
      have x0:wc.cell? ⟨W.heap.size,0,none⟩=some (.pointer (some ⟨rb,0,none⟩)):=tchCell ht (ND.out _ (Nat.le_refl _)) U0.out
      have y7:wc.cell? ⟨rb,7,none⟩=some (.string ⟨#[]⟩):=(cell_of_row wc rb 7 _ _ _ hfin).trans rfl
      have y8:wc.cell? ⟨rb,8,none⟩=some (.int .i64 0):=(cell_of_row wc rb 8 _ _ _ hfin).trans rfl
      have y9:wc.cell? ⟨rb,9,none⟩=some (.bool true):=(cell_of_row wc rb 9 _ _ _ hfin).trans rfl
      have y10:wc.cell? ⟨rb,10,none⟩=some (.bool false):=(cell_of_row wc rb 10 _ _ _ hfin).trans rfl
      have y11:wc.cell? ⟨rb,11,none⟩=some (.int .i64 v):=(cell_of_row wc rb 11 _ _ _ hfin).trans rfl
      have y12:wc.cell? ⟨rb,12,none⟩=some (.int .i64 ((M+1:Nat):Int)):=(cell_of_row wc rb 12 _ _ _ hfin).trans rfl
      have zr3:¬ W.heap.size+1+1+1=rb:=zr
      have hrw:wc.heap[W.heap.size+1+1+1]?=_:=(ht.blk _ (by omega) (ND.out _ (by omega))).trans RU.out
      have w0:wc.cell? ⟨W.heap.size+1+1+1,0,none⟩=some (.string ⟨#[]⟩):=(cell_of_row wc _ 0 _ _ _ hrw).trans rfl
      have w1:wc.cell? ⟨W.heap.size+1+1+1,1,none⟩=some (.int .i64 0):=(cell_of_row wc _ 1 _ _ _ hrw).trans rfl
      have w2:wc.cell? ⟨W.heap.size+1+1+1,2,none⟩=some (.bool false):=(cell_of_row wc _ 2 _ _ _ hrw).trans rfl
      have w3:wc.cell? ⟨W.heap.size+1+1+1,3,none⟩=some (.bool false):=(cell_of_row wc _ 3 _ _ _ hrw).trans rfl
      have w4:wc.cell? ⟨W.heap.size+1+1+1,4,none⟩=some (.int .i64 0):=(cell_of_row wc _ 4 _ _ _ hrw).trans rfl
      have w5:wc.cell? ⟨W.heap.size+1+1+1,5,none⟩=some (.int .i64 0):=(cell_of_row wc _ 5 _ _ _ hrw).trans rfl
      have wz:=fun k=>frozen_of_row wc (W.heap.size+1+1+1) k _ _ hrw
      have HTI:Hid (Tch (fun j=>j=sb∨j=rb) W wc):=((Tch.refl _ W).bel BU.out).trans ht (fun _ _ x=>x)
      clear hfin ht hrw RU U0
      go_wp2
      refine bodyPost_ret (v:=resV 0 true v (M+1)) (by simp [results,Tryz.results12,go_sem,resV, *]) rfl ⟨rfl,?_⟩
      exact (((((HTI.out.set (.inr (by show W.heap.size≤W.heap.size+1+1+1;omega)) _).set (.inr (by show W.heap.size≤W.heap.size+1+1+1;omega)) _).set (.inr (by show W.heap.size≤W.heap.size+1+1+1;omega)) _).set (.inr (by show W.heap.size≤W.heap.size+1+1+1;omega)) _).set (.inr (by show W.heap.size≤W.heap.size+1+1+1;omega)) _).set (.inr (by show W.heap.size≤W.heap.size+1+1+1;omega)) _
set_option maxHeartbeats 1000000 in
theorem leave0_e {W:World} {K:Nat→Prop} {rb:Nat} {A:RA} {sp nx:Nat} {p:PF} (h:RuAt W K rb A sp nx p):Calls Tryz.prog 185 #[.pointer (some ⟨rb,0,none⟩),.slice none 0 0] W fun e w'=>e=.returned (.tuple #[])∧EndR K W w' rb A sp false 0:=by
  obtain ⟨c0,c2,c3,c6,c12,rz⟩:=h.c
  have hrl:=h.rl
  have HR:Hid (W.heap[rb]?=some (.cells (runC A 1 sp false false 0) 88 (0,0))):=h.hr
  have NR:Hid (¬ K rb):=h.nr
  have HL:Hid (∀ w,Below W.heap.size W w→Calls Tryz.prog 242 #[.pointer (some ⟨A.sb,0,none⟩)] w fun e w'=>e=.returned (.int .i64 0)∧Tch K W w'):=fun w hb=>by
    obtain ⟨fs,fv,h1,h2⟩:=h.sk.below hb
    refine (lev_c h1).mono ?_
    rintro e w' ⟨rfl,hk⟩
    rw [h2]
    exact ⟨rfl,(hk.r.pre hb).choose_spec.2.2⟩
  have HC:Hid (∀ w:World,Calls Tryz.prog 72 #[.int .i64 0] w fun e w'=>e=.returned (.tuple #[])∧w'=w):=fun w=>chk_ok w
  clear h
  go_enter Tryz.func185,Tryz.ntmps185
  go_upto_region 1 with (first
    | (go_at_call 72;refine (HC.out _).mono ?_;rintro e w2 ⟨rfl,hw⟩;obtain rfl:=hw.symm)
    | (go_at_call 242; refine (HL.out _ (by repeat (first | exact Below.refl _ _ | refine Below.setCell ?_ (by simp; try omega) _ | refine Below.alloc ?_ (by simp; try omega) _ | refine Below.drew ?_))).mono ?_; rintro e w1 ⟨rfl, ht⟩
       have T1:Hid (Tch K W w1):=ht
       have R1:Hid (w1.heap[rb]?=some (.cells (runC A 1 sp false false 0) 88 (0,0))):=(ht.blk rb hrl NR.out).trans HR.out
       have d3:w1.cell? ⟨rb,3,none⟩=some (.slice (some ⟨A.fb,0,none⟩) 1 A.fc):=(cell_of_row w1 rb 3 _ _ _ R1.out).trans rfl
       have dz:=fun k=>frozen_of_row w1 rb k _ _ R1.out
       have z1:=ht.size
       have rl1:rb<w1.heap.size:=by omega
       clear ht HL))
  clear c0 c2 c3 c6 c12 rz
  go_region
  obtain ⟨X,hX⟩:∃ X,X=(w1.setCell ⟨rb,3,none⟩ (.slice (some ⟨A.fb,0,none⟩) 0 A.fc)).drew:=⟨_,rfl⟩
  have RX:Hid (X.heap[rb]?=some (.cells (runC A 0 sp false false 0) 88 (0,0))):=by rw [hX];exact run_set3 R1.out 0
  have TX:Hid (Tch (fun j=>K j∨j=rb∨j=A.fb) W X):=by
    rw [hX]
    exact ((T1.out.mono (fun _ _ x=>Or.inl x)).set (.inl (.inr (.inl rfl))) _).drew
  have x3:X.cell? ⟨rb,3,none⟩=some (.slice (some ⟨A.fb,0,none⟩) 0 A.fc):=(cell_of_row X rb 3 _ _ _ RX.out).trans rfl
  have x9:X.cell? ⟨rb,9,none⟩=some (.bool false):=(cell_of_row X rb 9 _ _ _ RX.out).trans rfl
  have x10:X.cell? ⟨rb,10,none⟩=some (.bool false):=(cell_of_row X rb 10 _ _ _ RX.out).trans rfl
  have x11:X.cell? ⟨rb,11,none⟩=some (.int .i64 0):=(cell_of_row X rb 11 _ _ _ RX.out).trans rfl
  have xz:=fun k=>frozen_of_row X rb k _ _ RX.out
  have zX:X.heap.size=w1.heap.size:=by rw [hX];simp
  have xl:rb<X.heap.size:=by omega
  have xn:¬ rb=X.heap.size:=by omega
  rw [← hX]
  clear hX d3 dz rl1 T1 R1 HR zX z1
  go_wp2_with fail
  go_loopw [28] (fun iv wr=>iv=.int .i64 0∧Hid (wr=X)) (fun _ _=>0)
  case atStart=>exact ⟨rfl,rfl⟩
  case round =>
    obtain ⟨rfl,hwr⟩:=hrel
    have hwr2:=hwr.out
    clear hwr
    subst hwr2
    go_upto_region 6 with fail
    exact bodyPost_end (results_none rfl _ _ _) rfl ⟨rfl,RX.out,by first|exact TX.out|exact TX.out.drew⟩
set_option maxHeartbeats 1000000 in
theorem retNo_e {W:World} {K:Nat→Prop} {rb:Nat} {A:RA} {sp nx:Nat} {p:PF} (h:RuAt W K rb A sp nx p)
    (HP:Hid (∀ w,Calls Tryz.prog 18 #[.string A.ds] w fun e w'=>(∃ a k c,e=.returned (.tuple #[.agg #[.slice a k c,.bool true,.int .i64 0,.string ⟨#[]⟩],.int .i64 0]))∧Below w.heap.size w w')) :
    Calls Tryz.prog 108 #[.pointer (some ⟨rb,0,none⟩)] W fun e w'=>e=.returned (.tuple #[])∧EndR K W w' rb A sp false 0:=by
  have H0:Hid (RuAt W K rb A sp nx p):=h
  have HD:Hid (Calls Tryz.prog 184 #[.pointer (some ⟨rb,0,none⟩)] W fun e w'=>(∃ a k c,e=.returned (.agg #[.slice a k c,.bool true,.int .i64 0,.string ⟨#[]⟩]))∧Below W.heap.size W w'):=desc_e h.c.2.2.1 h.f.1 true 0 ⟨#[]⟩ HP
  have HN:Hid (∀ w,Calls Tryz.prog 49 #[.bool false,.int .i64 35] w fun e w'=>e=.returned (.tuple #[])∧w'=w):=fun w=>tif_no 35 w
  have HL:Hid (∀ w,RuAt w K rb A sp nx p→Calls Tryz.prog 185 #[.pointer (some ⟨rb,0,none⟩),.slice none 0 0] w fun e w'=>e=.returned (.tuple #[])∧EndR K w w' rb A sp false 0):=fun w hr=>leave0_e hr
  have FLD:∀ (a:Option Addr) (n m:Nat) (w:World),(Instr.field 73 (.agg #[.slice a n m,.bool true,.int .i64 0,.string ⟨#[]⟩]) 1).run Tryz.prog w=.ok (.bool true) w:=fun a n m w=>by
    simp [Instr.field,run_underlying Tryz.underlying73,go_sem,part,asAgg]
  clear h HP
  go_enter Tryz.func108,Tryz.ntmps108
  go_wp2_with (first
    | (go_at_call 184;refine (HD.out).mono ?_;rintro e w2 ⟨⟨a,k,c,rfl⟩,hb⟩;have B2:Hid (Below W.heap.size W w2):=hb;clear hb HD)
    | (go_at_call 49;refine (HN.out _).mono ?_;rintro e w3 ⟨rfl,hw⟩;obtain rfl:=hw.symm)
    | (go_at_call 185;refine (HL.out _ (H0.out.below (by first|exact B2.out|exact B2.out.alloc B2.out.size _|exact B2.out.drew))).mono ?_;rintro e w4 ⟨rfl,hq⟩;have Q1:Hid _:=hq;clear hq))
  exact bodyPost_end (results_none rfl _ _ _) rfl ⟨rfl,Q1.out.1,((Tch.refl _ W).bel B2.out).trans Q1.out.2 (fun _ _ x=>x)⟩
set_option maxHeartbeats 1000000 in
theorem do_return {W:World} {rb:Nat} {n:Int} {Q:World→Prop} (HL:Hid (∀ w,Below W.heap.size W w→Calls Tryz.prog 108 #[.pointer (some ⟨rb,0,none⟩)] w fun e w'=>e=.returned (.tuple #[])∧Q w')):Calls Tryz.prog 50 #[.pointer (some ⟨rb,0,none⟩),inV (38,n)] W fun e w'=>e=.returned (.tuple #[])∧Q w':=by
  unfold inV
  go_enter Tryz.func50,Tryz.ntmps50
  go_wp2_with (go_at_call 108;refine (HL.out _ (by repeat (first|exact Below.refl _ _|refine Below.setCell ?_ (by simp;try omega) _|refine Below.alloc ?_ (by simp;try omega) _|refine Below.drew ?_))).mono ?_;rintro e w1 ⟨rfl,hq⟩)
  exact bodyPost_end (results_none rfl _ _ _) rfl ⟨rfl,hq⟩
theorem stp_return {W:World} {K:Nat→Prop} {rb:Nat} {A:RA} {sp nx:Nat} {p:PF} (h:RuAt W K rb A sp nx p) (n:Int) (hi:A.code[nx]?=some (38,n)) (hz:A.code.length≤1000) (hsp:(sp:Int)<A.fu) (hfu:A.fu≤100000)
    (HP:Hid (∀ w,Calls Tryz.prog 18 #[.string A.ds] w fun e w'=>(∃ a k c,e=.returned (.tuple #[.agg #[.slice a k c,.bool true,.int .i64 0,.string ⟨#[]⟩],.int .i64 0]))∧Below w.heap.size w w')) :
    Calls Tryz.prog 26 #[.pointer (some ⟨rb,0,none⟩)] W fun e w'=>e=.returned (.tuple #[])∧EndR K W w' rb A (sp+1) false 0 :=
  step_e h 38 n hi hz hsp hfu _ (.inl rfl) _ fun _ hw ht=>do_return fun _ hb=>(retNo_e (hw.below hb) HP).mono fun _ _ x=>⟨x.1,x.2.1,by
    have t:=ht.bel hb
    exact (t.mono (fun _ _ x=>Or.inr x)).trans x.2.2 (fun _ _ x=>x)⟩
end Go.Proofs.YtlohdfpinmdljaaGreatDoor.Sk
