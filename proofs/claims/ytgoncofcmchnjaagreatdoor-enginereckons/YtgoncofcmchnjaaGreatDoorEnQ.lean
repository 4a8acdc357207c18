import Derived.Test.YtgoncofcmchnjaaGreatDoorEnS
import Derived.Test.YtgoncofcmchnjaaGreatDoorTaA
import Derived.Test.YtgoncofcmchnjaaGreatDoorAcC
import Derived.Test.YtgoncofcmchnjaaGreatDoorHrT
set_option maxRecDepth 100000
namespace Go.Proofs.YtgoncofcmchnjaaGreatDoor.Sk
open Go.RowKit Go.Maps
def runT (A:RA) (sp:Nat) (E:Int):Array Value:=#[.pointer (some ⟨A.ge,0,none⟩),.pointer (some ⟨A.he,0,none⟩),.pointer (some ⟨A.sb,0,none⟩),.slice (some ⟨A.fb,0,none⟩) 1 A.fc,A.ba,A.bb,.int .i64 A.fu,.string ⟨#[]⟩,.int .i64 E,.bool false,.bool false,.int .i64 0,.int .i64 (sp:Int)]
def FinU (rb:Nat) (A:RA) (M:Nat) (E:Int) (w:World):Prop:=w.heap[rb]?=some (.cells (runT A (M+1) E) 87 (0,0))
set_option maxHeartbeats 2000000 in
theorem whole_thr {W:World} {rb sb:Nat} {q1 q2 q3:ByteArray} {a:Option Addr} {an ac:Nat} (hrl:rb<W.heap.size) (hsl:sb<W.heap.size) (hrs:rb≠sb)
    (GA:RA→Prop) (hGA:∀ A,GA A→A.bb=.slice none 0 0) (nx:Nat→Nat) (ps:Nat→PF) (M:Nat) (E:Int)
    (HB:Hid (∀ w,Below W.heap.size W w→Calls Tryz.prog 24 #[.pointer (some ⟨rb,0,none⟩),.agg #[.bool false,.string q1,.string q2,.string q3],.slice a an ac] w fun e w'=>e=.returned (.tuple #[])∧∃ A K,GA A∧RuAt w' K rb A 0 (nx 0) (ps 0)∧w.heap.size≤A.fb∧(∀ j,K j→j=sb∨w.heap.size≤j)∧Tch (fun j=>j=sb∨j=rb) w w'))
    (HS:Hid (∀ A,GA A→∀ k,k<M→∀ K w,RuAt w K rb A k (nx k) (ps k)→Calls Tryz.prog 25 #[.pointer (some ⟨rb,0,none⟩)] w fun e w'=>e=.returned (.tuple #[])∧RuR K w w' rb A (k+1) (nx (k+1)) (ps (k+1))))
    (HE:Hid (∀ A,GA A→∀ K w,RuAt w K rb A M (nx M) (ps M)→Calls Tryz.prog 25 #[.pointer (some ⟨rb,0,none⟩)] w fun e w'=>e=thr E∧w'.heap[rb]?=some (.cells (runC A 1 (M+1) false false 0) 87 (0,0))∧Tch (fun j=>K j∨j=rb∨j=A.fb) w w')) :
    Calls Tryz.prog 11 #[.pointer (some ⟨rb,0,none⟩),.agg #[.bool false,.string q1,.string q2,.string q3],.slice a an ac] W fun e w'=>e=.returned (resV E false 0 (M+1))∧Tch (fun j=>j=sb∨j=rb) W w':=by
  have hmf:∀ (fn:Fn) (first cap:Array Value) (w:World),(Instr.makeFunc fn first cap).run Tryz.prog w=.ok (.func fn first cap) w:=fun _ _ _ _=>rfl
  go_enter Tryz.func11,Tryz.ntmps11
  go_upto_region 1 with fail
  refine wp_name (fun U hU=>?_)
  have zU:U.heap.size=W.heap.size+4:=by rw [hU];simp
  have r0:U.heap[W.heap.size]?=some (.cells #[.pointer (some ⟨rb,0,none⟩)] 50 (0,0)):=by rw [hU];exact hkA (hkA (hkA (haA W _ rfl)))
  have r1:U.heap[W.heap.size+1]?=some (.cells #[.bool false,.string q1,.string q2,.string q3] 26 (0,0)):=by rw [hU];exact hkA (hkA (haA (W.alloc _) _ (by rw [szA])))
  have r2:U.heap[W.heap.size+2]?=some (.cells #[.slice a an ac] 37 (0,0)):=by rw [hU];exact hkA (haA ((W.alloc _).alloc _) _ (by rw [szA,szA]))
  have rU:U.heap[W.heap.size+3]?=some (.cells #[.string ⟨#[]⟩,.int .i64 0,.bool false,.bool false,.int .i64 0,.int .i64 0] 34 (0,0)):=by rw [hU];exact haA (((W.alloc _).alloc _).alloc _) _ (by rw [szA,szA,szA])
  have u0:U.cell? ⟨W.heap.size,0,none⟩=some (.pointer (some ⟨rb,0,none⟩)):=(cell_of_row U _ 0 _ _ _ r0).trans rfl
  have m0:U.cell? ⟨W.heap.size+1,0,none⟩=some (.bool false):=(cell_of_row U _ 0 _ _ _ r1).trans rfl
  have m1:U.cell? ⟨W.heap.size+1,1,none⟩=some (.string q1):=(cell_of_row U _ 1 _ _ _ r1).trans rfl
  have m2:U.cell? ⟨W.heap.size+1,2,none⟩=some (.string q2):=(cell_of_row U _ 2 _ _ _ r1).trans rfl
  have m3:U.cell? ⟨W.heap.size+1,3,none⟩=some (.string q3):=(cell_of_row U _ 3 _ _ _ r1).trans rfl
  have a0:U.cell? ⟨W.heap.size+2,0,none⟩=some (.slice a an ac):=(cell_of_row U _ 0 _ _ _ r2).trans rfl
  have BU:Hid (Below W.heap.size W U):=by
    rw [hU]
    exact ((((Below.refl _ _).alloc (Nat.le_refl _) _).alloc (by rw [szA];omega) _).alloc (by rw [szA,szA];omega) _).alloc (by rw [szA,szA,szA];omega) _
  clear r0 r1 r2
  have U0:Hid (U.cell? ⟨W.heap.size,0,none⟩=some (.pointer (some ⟨rb,0,none⟩))):=u0
  have RU:Hid (U.heap[W.heap.size+3]?=some (.cells #[.string ⟨#[]⟩,.int .i64 0,.bool false,.bool false,.int .i64 0,.int .i64 0] 34 (0,0))):=rU
  have ND:Hid (∀ j,W.heap.size≤j→¬ (j=sb∨j=rb)):=fun j hj x=>by rcases x with rfl|rfl <;> omega
  have HC:Hid (∀ w,Below U.heap.size U w→Calls Tryz.prog 22 #[.func (.func 23) #[] #[.pointer (some ⟨W.heap.size,0,none⟩),.pointer (some ⟨W.heap.size+1,0,none⟩),.pointer (some ⟨W.heap.size+2,0,none⟩)]] w fun e w'=>e=.returned (.int .i64 E)∧(∃ A,GA A∧FinT rb A M w')∧Tch (fun j=>j=sb∨j=rb) w w'):=fun w hw=>by
    have hz:=hw.size
    refine (caught_thr (E:=E) (P:=fun w w'=>Tch (fun j=>j=sb∨j=rb) w w'∧∃ A,GA A∧FinT rb A M w') (fun w2 hb=>?_) (fun w2 w3 hz2 hp=>hp.1.blk _ hz2 (ND.out _ (by omega)))).mono ?_
    · have hUw:Below U.heap.size U w2:=Below.step hw hb
      refine whole1_thr (kc hUw u0) (kc hUw m0) (kc hUw m1) (kc hUw m2) (kc hUw m3) (kc hUw a0) GA nx ps M E (by omega) (by omega) ?_ HS HE
      exact HB.out w2 (Below.step BU.out hUw)
    · rintro e w' ⟨rfl,w1,⟨ht,A,hga,hfin⟩,rfl⟩
      have t2:Tch (fun j=>j=sb∨j=rb) w w1:=((Tch.refl _ w).alloc _).trans ht (fun _ _ x=>x)
      refine ⟨rfl,⟨A,hga,?_⟩,t2.set (.inr (Nat.le_refl _)) _⟩
      exact (Below.heap_setCell _ _ _ _ (by simp;omega)).trans hfin
  have zr:¬ W.heap.size+3=rb:=by omega
  have zr2:¬ W.heap.size+3=sb:=by omega
  clear hU u0 m0 m1 m2 m3 a0 rU HB HS HE
  go_cut [] (fun wx=>Hid ((∃ A,GA A∧FinU rb A M E wx)∧Tch (fun j=>j=sb∨j=rb) U wx))
  case first =>
    have u0:=U0.out
    go_region_with (go_at_call 22;refine (HC.out _ (by first|exact Below.refl _ _|exact (Below.refl _ _).drew)).mono ?_;rintro e w1 ⟨rfl,⟨A,hga,hfin⟩,ht⟩;have hga2:Hid (GA A):=hga;have hfin2:Hid (FinT rb A M w1):=hfin;have ht2:Hid (Tch (fun j=>j=sb∨j=rb) U w1):=(Tch.drew (Tch.refl _ U)).trans ht (fun _ _ x=>x);have x0:w1.cell? ⟨W.heap.size,0,none⟩=some (.pointer (some ⟨rb,0,none⟩)):=tchCell ht2.out (ND.out _ (Nat.le_refl _)) U0.out;have y8:w1.cell? ⟨rb,8,none⟩=some (.int .i64 0):=(cell_of_row w1 rb 8 _ _ _ hfin).trans rfl;have yz:=fun k=>frozen_of_row w1 rb k _ _ hfin;clear hga hfin ht)
    all_goals (go_wp2_with fail)
    all_goals go_meet
    all_goals exact ⟨⟨A,hga2.out,(Go.Joins.block_setCell hfin2.out _).trans rfl⟩,ht2.out.set (.inl (.inr rfl)) _⟩
  case rest =>
    obtain ⟨⟨A,hga,hfin⟩,ht⟩:=hcut.out
    clear hcut HC
    have HG:Hid (GA A):=hga
    go_upto_region 2 with fail
    go_cut [] (fun wx=>Hid (FinU rb A M E wx∧Tch (fun j=>j=sb∨j=rb) U wx))
    case first =>
      have x0:wc.cell? ⟨W.heap.size,0,none⟩=some (.pointer (some ⟨rb,0,none⟩)):=tchCell ht (ND.out _ (Nat.le_refl _)) U0.out
      have y5:wc.cell? ⟨rb,5,none⟩=some (.slice none 0 0):=((cell_of_row wc rb 5 _ _ _ hfin).trans rfl).trans (congrArg some (hGA A hga))
      have y7:wc.cell? ⟨rb,7,none⟩=some (.string ⟨#[]⟩):=(cell_of_row wc rb 7 _ _ _ hfin).trans rfl
      have yz:=fun k=>frozen_of_row wc rb k _ _ hfin
      have HFI:Hid (FinU rb A M E wc):=hfin
      have HTI:Hid (Tch (fun j=>j=sb∨j=rb) U wc):=ht
      have HS5:Hid (∀ w,w.cell? ⟨rb,5,none⟩=some (.slice none 0 0)→Calls Tryz.prog 26 #[.pointer (some ⟨rb,4,none⟩)] w fun e w'=>e=.returned (.string ⟨#[]⟩)∧w'=w.drew):=fun w h=>bstr_none h
      have hrl2:rb<wc.heap.size:=World.block_lt_of_cell? wc _ y7
      clear hfin ht hga
      go_region_with (go_at_call 26;refine (HS5.out _ (by first|exact y5|(simp;exact y5))).mono ?_;rintro e w1 ⟨rfl,hw⟩;obtain rfl:=hw.symm)
      all_goals (go_wp2_with fail)
      all_goals go_meet
      all_goals exact ⟨(Go.Joins.block_setCell HFI.out _).trans rfl,((HTI.out.set (.inl (.inr rfl)) _).drew).drew⟩
    case rest =>
      obtain ⟨hfin,ht⟩:=hcut.out
      clear hcut
      have x0:wc.cell? ⟨W.heap.size,0,none⟩=some (.pointer (some ⟨rb,0,none⟩)):=tchCell ht (ND.out _ (Nat.le_refl _)) U0.out
      have y7:wc.cell? ⟨rb,7,none⟩=some (.string ⟨#[]⟩):=(cell_of_row wc rb 7 _ _ _ hfin).trans rfl
      have y8:wc.cell? ⟨rb,8,none⟩=some (.int .i64 E):=(cell_of_row wc rb 8 _ _ _ hfin).trans rfl
      have y9:wc.cell? ⟨rb,9,none⟩=some (.bool false):=(cell_of_row wc rb 9 _ _ _ hfin).trans rfl
      have y10:wc.cell? ⟨rb,10,none⟩=some (.bool false):=(cell_of_row wc rb 10 _ _ _ hfin).trans rfl
      have y11:wc.cell? ⟨rb,11,none⟩=some (.int .i64 0):=(cell_of_row wc rb 11 _ _ _ hfin).trans rfl
      have y12:wc.cell? ⟨rb,12,none⟩=some (.int .i64 ((M+1:Nat):Int)):=(cell_of_row wc rb 12 _ _ _ hfin).trans rfl
      have zr3:¬ W.heap.size+1+1+1=rb:=zr
      have hrw:wc.heap[W.heap.size+1+1+1]?=_:=(ht.blk _ (by omega) (ND.out _ (by omega))).trans RU.out
      have w0:wc.cell? ⟨W.heap.size+1+1+1,0,none⟩=some (.string ⟨#[]⟩):=(cell_of_row wc _ 0 _ _ _ hrw).trans rfl
      have w1:wc.cell? ⟨W.heap.size+1+1+1,1,none⟩=some (.int .i64 0):=(cell_of_row wc _ 1 _ _ _ hrw).trans rfl
      have w2:wc.cell? ⟨W.heap.size+1+1+1,2,none⟩=some (.bool false):=(cell_of_row wc _ 2 _ _ _ hrw).trans rfl
      have w3:wc.cell? ⟨W.heap.size+1+1+1,3,none⟩=some (.bool false):=(cell_of_row wc _ 3 _ _ _ hrw).trans rfl
      have w4:wc.cell? ⟨W.heap.size+1+1+1,4,none⟩=some (.int .i64 0):=(cell_of_row wc _ 4 _ _ _ hrw).trans rfl
      have w5:wc.cell? ⟨W.heap.size+1+1+1,5,none⟩=some (.int .i64 0):=(cell_of_row wc _ 5 _ _ _ hrw).trans rfl
      have wz:=fun k=>frozen_of_row wc (W.heap.size+1+1+1) k _ _ hrw
      have HTI:Hid (Tch (fun j=>j=sb∨j=rb) W wc):=((Tch.refl _ W).bel BU.out).trans ht (fun _ _ x=>x)
      clear hfin ht hrw RU U0
      go_wp2
      refine bodyPost_ret (v:=resV E false 0 (M+1)) (by simp [results,Tryz.results11,go_sem,resV, *]) rfl ⟨rfl,?_⟩
      exact (((((HTI.out.set (.inr (by show W.heap.size≤W.heap.size+1+1+1;omega)) _).set (.inr (by show W.heap.size≤W.heap.size+1+1+1;omega)) _).set (.inr (by show W.heap.size≤W.heap.size+1+1+1;omega)) _).set (.inr (by show W.heap.size≤W.heap.size+1+1+1;omega)) _).set (.inr (by show W.heap.size≤W.heap.size+1+1+1;omega)) _).set (.inr (by show W.heap.size≤W.heap.size+1+1+1;omega)) _
theorem two_set {w:World} {n N:Nat} {t:TypeId} {z0 z1:Value} (h:w.heap[n]?=some (.cells #[z0,z1] t (0,0))) (hN:N≤n) (a0 a1:Value):((w.setCell ⟨n,0,none⟩ a0).setCell ⟨n,1,none⟩ a1).heap[n]?=some (.cells #[a0,a1] t (0,0))∧Below N w ((w.setCell ⟨n,0,none⟩ a0).setCell ⟨n,1,none⟩ a1):=by
  refine ⟨?_,((Below.refl _ w).setCell hN _).setCell hN _⟩
  rw [Go.Joins.block_setCell (Go.Joins.block_setCell h _) _]
  rfl
theorem callApp1 (xs:List Int) (i:Nat) (x:Int) (h:xs[i]?=some x):flatV ((xs.take (i+1)).map fun x=>(false,x))=flatV ((xs.take i).map fun x=>(false,x))++[.bool false,.int .i64 x]:=by
  rw [List.take_add_one,h,Option.toList_some,List.map_append,flatV_app]
  rfl
set_option maxHeartbeats 4000000 in
theorem begin_e {W:World} {rb ge lb b:Nat} (h:WyAt W rb ge lb b) (he sb:Nat) (fu:Int) (hr:W.heap[rb]?=some (.cells (run0 ge he sb fu) 87 (0,0))) (hst:StA W (fun j=>j=sb) sb []) (hn:rb≠sb)
    (y:Bool) (q1 q2 q3:ByteArray) (d ci cj:Int) (nm ds:ByteArray) (fl lo st:Int) (code:List (Int×Int)) (hlo:0≤lo∧lo≤40) (hsto:0≤st∧st≤40)
    (HG:Hid (∀ w,Below W.heap.size W w→Calls Tryz.prog 45 #[.pointer (some ⟨rb,0,none⟩),.agg #[.bool y,.string q1,.string q2,.string q3]] w fun e w'=>e=.returned (.int .i64 d)∧Below w.heap.size w w'))
    (HC:Hid (∀ w,Below W.heap.size W w→Calls Tryz.prog 44 #[.pointer (some ⟨b,0,none⟩),.int .i64 d,.int .i64 4,.agg #[.bool y,.string q1,.string q2,.string q3],.agg #[.int .i64 0,.string ⟨#[]⟩]] w fun e w'=>e=.returned (.tuple #[.agg #[.int .i64 ci,.int .i64 cj],.int .i64 0])∧Below w.heap.size w w'))
    (HM:Hid (∀ w,Below W.heap.size W w→Calls Tryz.prog 83 #[.pointer (some ⟨b,0,none⟩),.agg #[.int .i64 ci,.int .i64 cj]] w fun e w'=>(∃ g c,e=.returned (.tuple #[.agg #[.string nm,.string ds,.int .i64 fl,.int .i64 lo,.int .i64 st,.slice (some ⟨g,0,none⟩) code.length c],.int .i64 0])∧w'.ownsRow w.heap.size 28 7 (.slice (some ⟨g,0,none⟩) code.length c) code.length (flatN code))∧Below w.heap.size w w'))
    (vs:List Int) (va:Option Addr) (vc:Nat) (hv:∀ k x,vs[k]?=some x→∃ g,va=some ⟨g,0,none⟩∧W.cell? ⟨g,k,none⟩=some (.int .i64 x)) (hvl:(vs.length:Int)≤lo) :
    Calls Tryz.prog 24 #[.pointer (some ⟨rb,0,none⟩),.agg #[.bool y,.string q1,.string q2,.string q3],.slice va vs.length vc] W fun e w'=>e=.returned (.tuple #[])∧∃ fb fc g c K,RuAt w' K rb ⟨ge,he,sb,fb,fc,.pointer none,.slice none 0 0,fu,nm,ds,fl,lo,st,g,c,code,ci,cj⟩ 0 0 ⟨[],st.toNat,lsI lo.toNat vs vs.length⟩∧W.heap.size≤fb∧(∀ j,K j→j=sb∨W.heap.size≤j)∧Tch (fun j=>j=sb∨j=rb) W w':=by
  have HWl:Hid (∀ w,Below W.heap.size W w→Calls Tryz.prog 41 #[.pointer (some ⟨lb,0,none⟩)] w fun e w'=>e=.returned (.pointer (some ⟨b,0,none⟩))∧w'=w):=fun w hb=>lwld_e lb _ w (h.below hb).l
  have HO:Hid (∀ w,Calls Tryz.prog 43 #[.agg #[.int .i64 ci,.int .i64 cj],.int .i64 0] w fun e w'=>e=.returned (.agg #[.int .i64 ci,.int .i64 cj])∧Below w.heap.size w w'):=fun w=>oT_id ci cj w
  have y1:=h.r
  have y2:=h.g
  have rl:rb<W.heap.size:=World.block_lt_of_cell? W _ y1
  have gl:ge<W.heap.size:=World.block_lt_of_cell? W _ y2
  have sl:sb<W.heap.size:=hst.lt rfl
  have HEN:Hid (∀ w vs' va' vc',Below W.heap.size W w→vs'=vs→(∀ k x,vs[k]?=some x→∃ g,va'=some ⟨g,0,none⟩∧¬ (g=sb)∧w.cell? ⟨g,k * 2,none⟩=some (.bool false)∧w.cell? ⟨g,k * 2+1,none⟩=some (.int .i64 x))→Calls Tryz.prog 46 #[.pointer (some ⟨rb,0,none⟩),.agg #[.int .i64 ci,.int .i64 cj],.slice va' vs.length vc'] w _):=fun w vs' va' vc' hb _ hc=>enter_e (h.below hb) he sb fu ((hb.block rb rl).trans hr) (K0:=fun j=>j=sb) (hst.below hb) hn ci cj nm ds fl lo st code hlo hsto (fun w2 hb2=>HM.out w2 (Below.step hb hb2)) vs va' vc' hc hvl
  have HV:Hid (∀ k x,vs[k]?=some x→∃ g,va=some ⟨g,0,none⟩∧W.cell? ⟨g,k,none⟩=some (.int .i64 x)):=hv
  obtain ⟨i0,hi0,hz0,hz1,hz2⟩:=info_parts Tryz.hinfoVl
  clear h hst hv hr HM
  go_enter Tryz.func24,Tryz.ntmps24
  go_upto_region 1 with fail
  refine wp_name (fun U hU=>?_)
  have u0:U.cell? ⟨W.heap.size,0,none⟩=some (.bool y):=by rw [hU];simp
  have u1:U.cell? ⟨W.heap.size,1,none⟩=some (.string q1):=by rw [hU];simp
  have u2:U.cell? ⟨W.heap.size,2,none⟩=some (.string q2):=by rw [hU];simp
  have u3:U.cell? ⟨W.heap.size,3,none⟩=some (.string q3):=by rw [hU];simp
  have uz:Hid (U.heap.size=W.heap.size+1):=by rw [hU];exact szA _ _
  have bU:Below W.heap.size W U:=by rw [hU];exact (by repeat (first|exact Below.refl _ _|refine Below.setCell ?_ (by simp;try omega) _|refine Below.alloc ?_ (by simp;try omega) _|refine Below.drew ?_))
  have u4:=kc bU y1
  have u5:=kc bU y2
  have BU:Hid (Below W.heap.size W U):=bU
  have HS:Hid (∀ w':World,Below U.heap.size U w'→(w'.cell? ⟨W.heap.size,0,none⟩=some (.bool y)∧w'.cell? ⟨W.heap.size,1,none⟩=some (.string q1)∧w'.cell? ⟨W.heap.size,2,none⟩=some (.string q2)∧w'.cell? ⟨W.heap.size,3,none⟩=some (.string q3)∧w'.cell? ⟨rb,0,none⟩=some (.pointer (some ⟨ge,0,none⟩))∧w'.cell? ⟨ge,0,none⟩=some (.pointer (some ⟨lb,0,none⟩)))):=fun w' hb=>⟨kc hb u0,kc hb u1,kc hb u2,kc hb u3,kc hb u4,kc hb u5⟩
  clear hU bU y1 y2 u0 u1 u2 u3 u4 u5
  go_cut [6] (fun s6 wx=>Hid (∃ n,s6=.pointer (some ⟨n,0,none⟩)∧W.heap.size<n∧wx.heap[n]?=some (.cells #[.int .i64 ci,.int .i64 cj] 137 (0,0))∧Below W.heap.size W wx))
  case first =>
    go_region_held3 (fun w'=>w'.cell? ⟨W.heap.size,0,none⟩=some (.bool y)∧w'.cell? ⟨W.heap.size,1,none⟩=some (.string q1)∧w'.cell? ⟨W.heap.size,2,none⟩=some (.string q2)∧w'.cell? ⟨W.heap.size,3,none⟩=some (.string q3)∧w'.cell? ⟨rb,0,none⟩=some (.pointer (some ⟨ge,0,none⟩))∧w'.cell? ⟨ge,0,none⟩=some (.pointer (some ⟨lb,0,none⟩))) (exact HS.out _ (by first|exact V4.out|exact V4.out.alloc V4.out.size _|exact V3.out|exact V3.out.alloc V3.out.size _|exact V2.out|exact V2.out.alloc V2.out.size _|exact Below.refl _ _|exact (Below.refl _ _).drew|exact ((Below.refl _ _).drew).alloc (Nat.le_refl _) _|exact (V4.out.setCell (by first|exact Nat.le_refl _|exact V2.out.size|exact V3.out.size|exact V4.out.size) _).setCell (by first|exact Nat.le_refl _|exact V2.out.size|exact V3.out.size|exact V4.out.size) _|exact ((V4.out.alloc V4.out.size _).setCell (by first|exact Nat.le_refl _|exact V2.out.size|exact V3.out.size|exact V4.out.size) _).setCell (by first|exact Nat.le_refl _|exact V2.out.size|exact V3.out.size|exact V4.out.size) _)) (first
      | (go_at_call 43;refine (HO.out _).mono ?_;rintro e w4 ⟨rfl,hb⟩;have B4:Hid (Below W.heap.size W w4):=Below.step (by first|exact B4.out|exact B4.out.alloc B4.out.size _|exact B3.out|exact B3.out.alloc B3.out.size _|exact B2.out|exact B2.out.alloc B2.out.size _|exact BU.out|exact BU.out.drew|exact BU.out.drew.alloc BU.out.size _) hb;have V4:Hid (Below U.heap.size U w4):=Below.step (by first|exact V4.out|exact V4.out.alloc V4.out.size _|exact V3.out|exact V3.out.alloc V3.out.size _|exact V2.out|exact V2.out.alloc V2.out.size _|exact Below.refl _ _|exact (Below.refl _ _).drew|exact ((Below.refl _ _).drew).alloc (Nat.le_refl _) _) hb;(first|(have xx:=k2d hb zB.out;obtain ⟨xB,x0,x1,xf,xL,xN⟩:=xx)|(have xx:=k2d (n:=w3.heap.size) (a0:=.int .i64 0) (a1:=.int .i64 0) (t:=137) hb (haA w3 _ rfl);obtain ⟨xB,x0,x1,xf,xL,xN⟩:=xx)|skip);clear hb)
      | (go_at_call 44;refine (HC.out _ (by first|exact B4.out|exact B4.out.alloc B4.out.size _|exact B3.out|exact B3.out.alloc B3.out.size _|exact B2.out|exact B2.out.alloc B2.out.size _|exact BU.out|exact BU.out.drew|exact BU.out.drew.alloc BU.out.size _)).mono ?_;rintro e w3 ⟨rfl,hb⟩;have B3:Hid (Below W.heap.size W w3):=Below.step (by first|exact B4.out|exact B4.out.alloc B4.out.size _|exact B3.out|exact B3.out.alloc B3.out.size _|exact B2.out|exact B2.out.alloc B2.out.size _|exact BU.out|exact BU.out.drew|exact BU.out.drew.alloc BU.out.size _) hb;have V3:Hid (Below U.heap.size U w3):=Below.step (by first|exact V4.out|exact V4.out.alloc V4.out.size _|exact V3.out|exact V3.out.alloc V3.out.size _|exact V2.out|exact V2.out.alloc V2.out.size _|exact Below.refl _ _|exact (Below.refl _ _).drew|exact ((Below.refl _ _).drew).alloc (Nat.le_refl _) _) hb;(first|(have xx:=k2d hb yB.out;obtain ⟨zB,z0,z1,zf,zL,zN⟩:=xx)|(have xx:=k2d (n:=w2.heap.size) (a0:=.int .i64 0) (a1:=.int .i64 0) (t:=137) hb (haA w2 _ rfl);obtain ⟨zB,z0,z1,zf,zL,zN⟩:=xx)|skip);clear hb)
      | (go_at_call 45;refine (HG.out _ (by first|exact B4.out|exact B4.out.alloc B4.out.size _|exact B3.out|exact B3.out.alloc B3.out.size _|exact B2.out|exact B2.out.alloc B2.out.size _|exact BU.out|exact BU.out.drew|exact BU.out.drew.alloc BU.out.size _)).mono ?_;rintro e w2 ⟨rfl,hb⟩;have B2:Hid (Below W.heap.size W w2):=Below.step (by first|exact B4.out|exact B4.out.alloc B4.out.size _|exact B3.out|exact B3.out.alloc B3.out.size _|exact B2.out|exact B2.out.alloc B2.out.size _|exact BU.out|exact BU.out.drew|exact BU.out.drew.alloc BU.out.size _) hb;have V2:Hid (Below U.heap.size U w2):=Below.step (by first|exact V4.out|exact V4.out.alloc V4.out.size _|exact V3.out|exact V3.out.alloc V3.out.size _|exact V2.out|exact V2.out.alloc V2.out.size _|exact Below.refl _ _|exact (Below.refl _ _).drew|exact ((Below.refl _ _).drew).alloc (Nat.le_refl _) _) hb;(first|(have yy:=k2d (n:=U.heap.size) (a0:=.int .i64 0) (a1:=.int .i64 0) (t:=137) hb (haA U _ rfl);obtain ⟨yB,y0,y1,yf,yL,yN⟩:=yy)|skip);clear hb)
      | (go_at_call 41;refine (HWl.out _ (by first|exact B4.out|exact B4.out.alloc B4.out.size _|exact B3.out|exact B3.out.alloc B3.out.size _|exact B2.out|exact B2.out.alloc B2.out.size _|exact BU.out|exact BU.out.drew|exact BU.out.drew.alloc BU.out.size _)).mono ?_;rintro e w1 ⟨rfl,hw⟩;obtain rfl:=hw.symm))
    all_goals (go_wp2_with fail)
    all_goals go_meet
    all_goals first
      | (refine ⟨w4.heap.size,rfl,?_⟩;exact ⟨by have:=V4.out.size;have:=uz.out;omega,haA _ _ rfl,B4.out.alloc B4.out.size _⟩)
      | (refine ⟨w3.heap.size,rfl,?_⟩;have hz:W.heap.size<w3.heap.size:=(by have:=V3.out.size;have:=uz.out;omega);exact ⟨hz,(two_set (N:=0) xB.out (Nat.zero_le _) _ _).1,(B4.out.setCell (Nat.le_of_lt hz) _).setCell (Nat.le_of_lt hz) _⟩)
      | (refine ⟨w2.heap.size,rfl,?_⟩;have hz:W.heap.size<w2.heap.size:=(by have:=V2.out.size;have:=uz.out;omega);exact ⟨hz,(two_set (N:=0) xB.out (Nat.zero_le _) _ _).1,(B4.out.setCell (Nat.le_of_lt hz) _).setCell (Nat.le_of_lt hz) _⟩)
      | (refine ⟨U.heap.size,rfl,?_⟩;have hz:W.heap.size<U.heap.size:=(by have:=uz.out;omega);exact ⟨hz,(two_set (N:=0) xB.out (Nat.zero_le _) _ _).1,(B4.out.setCell (Nat.le_of_lt hz) _).setCell (Nat.le_of_lt hz) _⟩)
  case rest =>
    obtain ⟨n,rfl,hnW,hm,hbl⟩:=hcut.out
    have BC:Hid (Below W.heap.size W wc):=hbl
    have MC:Hid (wc.heap[n]?=some (.cells #[.int .i64 ci,.int .i64 cj] 137 (0,0))):=hm
    have NC:Hid (W.heap.size<n):=hnW
    clear hcut HG HC HO HWl HS BU uz hnW hm hbl
    go_wp2
    go_loopw [7,29] (fun sv iv wr=>∃ (i:Nat) (va2:Option Addr) (vc2:Nat),sv=.slice va2 i vc2∧iv=.int .i64 (i:Int)∧i≤vs.length∧Hid (wr.ownsRow wc.heap.size 32 2 (.slice va2 i vc2) i (flatV ((vs.take i).map fun x=>(false,x))))∧Hid (Below wc.heap.size wc wr)) (fun _ iv _=>vs.length - (intOf iv).toNat)
    case atStart=>exact ⟨0,none,0,rfl,rfl,Nat.zero_le _,World.ownsRow_nil _ _ _ _,(by repeat (first|exact Below.refl _ _|refine Below.setCell ?_ (by simp;try omega) _|refine Below.alloc ?_ (by simp;try omega) _|refine Below.drew ?_))⟩
    case round =>
      obtain ⟨i,va2,vc2,rfl,rfl,hi,hO,hB⟩:=hrel
      by_cases hlt:i<vs.length
      · obtain ⟨x,hx⟩:∃ x,vs[i]?=some x:=⟨_,List.getElem?_eq_getElem hlt⟩
        obtain ⟨g,rfl,hc⟩:=HV.out i x hx
        have gl:g<W.heap.size:=World.block_lt_of_cell? W _ hc
        have x0:wr.cell? ⟨g,i,none⟩=some (.int .i64 x):=((BC.out.trans (hB.out.mono BC.out.size)).cell (p:=⟨g,i,none⟩) gl).trans hc
        have hst:Hid _:=callApp1 vs i x hx
        have hiI:(i:Int)<(vs.length:Int):=by omega
        have hv40:Hid (vs.length≤40):=by have:=hlo.2;show vs.length≤40;omega
        have hOl:Hid (wr.ownsRow wc.heap.size 32 2 (.slice va2 i vc2) i (flatV ((vs.take i).map fun x=>(false,x)))):=hO
        obtain ⟨XS,hXS⟩:∃ XS,flatV ((vs.take i).map fun x=>(false,x))=XS:=⟨_,rfl⟩
        rw [hXS] at hO hOl hst
        clear hc hx HEN hXS
        go_wp2_with (first
          | (at_builtin;refine wpList_append_own _ rfl _ _ 142 rfl wc.heap.size 32 i0 (.agg #[.bool false,.int .i64 0]) 2 16 Tryz.underlying142 hi0 hz0 hz1 hz2 rfl (by decide) (.slice va2 i vc2) i XS rfl (hO.out.alloc _) ⟨wr.heap.size,0,none⟩ 1 1 [.bool false,.int .i64 x] rfl rfl ?c1 ?c2 ?c3 ?c4 ?c5 ?_))
        case c1=>intro jj u hj;rw [addr_add];match jj,hj with
          | 0,hj=>simp at hj;subst hj;simp [go_sem]
          | 1,hj=>simp at hj;subst hj;simp [go_sem]
          | (jj+2),hj=>simp at hj
        case c2=>intro u hu;simp at hu;rcases hu with rfl|rfl <;> rfl
        case c3=>have:=hv40.out;unfold maxLen;omega
        case c4=>have:=hv40.out;omega
        case c5=>have:=hB.out.size;simp;omega
        intro v' w4 hown hgrow _
        obtain ⟨va3,vc3,rfl⟩:=ownv hown
        have B4:Hid (Below wc.heap.size wc w4):=by
          have hb1:Below wc.heap.size wc (wr.alloc (.cells #[.bool false,.int .i64 x] 32)):=hB.out.alloc hB.out.size _
          refine hb1.grown hgrow hb1.size (fun x hx=>?_)
          have:=(hOl.out.lt x hx).1
          omega
        have O4:Hid (w4.ownsRow wc.heap.size 32 2 (.slice va3 (i+1) vc3) (i+1) (flatV ((vs.take (i+1)).map fun x=>(false,x)))):=by
          rw [hst.out];exact hown
        clear hown hgrow hOl hO
        go_wp2
        go_roundw
        case rel=>exact ⟨i+1,va3,vc3,by go_num,by go_num,by omega,O4,B4⟩
        case measure=>simp [intOf];omega
      · have e:i=vs.length:=by omega
        subst e
        have hOl:=hO.out
        rw [List.take_length] at hOl
        have h5:Hid (Below W.heap.size W wr):=BC.out.trans (hB.out.mono BC.out.size)
        have hcl:∀ k x,vs[k]?=some x→∃ g,va2=some ⟨g,0,none⟩∧¬ (g=sb)∧wr.cell? ⟨g,k * 2,none⟩=some (.bool false)∧wr.cell? ⟨g,k * 2+1,none⟩=some (.int .i64 x):=by
          intro k x hk
          have hkl:k<vs.length:=(List.getElem?_eq_some_iff.1 hk).1
          obtain ⟨g,c2,hform⟩:=Go.Joins.ownsRow_form hOl (by omega)
          have hrow:=hOl
          rw [hform] at hrow
          injection hform with hca _ hcc
          have hf:=flatV_at (vs.map fun x=>(false,x)) k (false,x) (by rw [List.getElem?_map,hk];rfl)
          refine ⟨g,hca,fun e=>?_,(hrow.cellAt (k * 2) (by omega)).trans hf.1,(hrow.cellAt (k * 2+1) (by omega)).trans hf.2⟩
          have:=(hrow.lt g rfl).1
          have:=BC.out.size
          omega
        have HE:=HEN.out wr vs va2 vc2 h5.out rfl hcl
        have HE2:Hid _:=HE
        have m0:wr.cell? ⟨n,0,none⟩=some (.int .i64 ci):=(kc hB.out (cell_of_row wc n 0 _ _ _ MC.out)).trans rfl
        have m1:wr.cell? ⟨n,1,none⟩=some (.int .i64 cj):=(kc hB.out (cell_of_row wc n 1 _ _ _ MC.out)).trans rfl
        clear HE hOl hcl HEN hO
        go_wp2_with (go_at_call 46;refine Calls.mono HE2.out ?_;rintro e w9 ⟨rfl,hh⟩)
        obtain ⟨fb,fc,g,c,K,h1,h2,h3,h4⟩:=hh
        refine bodyPost_end (results_none rfl _ _ _) rfl ⟨rfl,fb,fc,g,c,K,h1,Nat.le_trans h5.out.size h2,fun j hj=>(h3 j hj).imp id (fun y=>Nat.le_trans h5.out.size y),?_⟩
        exact ((Tch.refl _ W).bel h5.out).trans h4 (fun j _ x=>x)
theorem lnew_e (b:Nat) (W:World):Calls Tryz.prog 14 #[.pointer (some ⟨b,0,none⟩)] W fun e w'=>e=.returned (.tuple #[.pointer (some ⟨W.heap.size+1,0,none⟩),.int .i64 0])∧w'.cell? ⟨W.heap.size+1,0,none⟩=some (.pointer (some ⟨b,0,none⟩))∧W.heap.size+2≤w'.heap.size∧Below W.heap.size W w':=by
  have hmm:=@run_makeMap Tryz.prog
  go_enter Tryz.func14,Tryz.ntmps14
  go_wp2
  go_ret2
  exact ⟨by simp,by simp,by simp,((Below.refl _ _).alloc (Nat.le_refl _) _).alloc (by simp) _⟩
theorem cnw0 (W:World):Calls Tryz.prog 32 #[.int .i64 0] W fun e w'=>(∃ p,e=.returned (.tuple #[.pointer p,.int .i64 0]))∧Below W.heap.size W w':=by
  go_enter Tryz.func32,Tryz.ntmps32
  go_wp2
  go_ret2
  exact ⟨⟨_,rfl⟩,(by repeat (first|exact Below.refl _ _|refine Below.setCell ?_ (by simp;try omega) _|refine Below.alloc ?_ (by simp;try omega) _|refine Below.drew ?_))⟩
theorem cnw1 (W:World):Calls Tryz.prog 32 #[.int .i64 1] W fun e w'=>(∃ p,e=.returned (.tuple #[.pointer p,.int .i64 0]))∧Below W.heap.size W w':=by
  go_enter Tryz.func32,Tryz.ntmps32
  go_wp2
  go_ret2
  exact ⟨⟨_,rfl⟩,(by repeat (first|exact Below.refl _ _|refine Below.setCell ?_ (by simp;try omega) _|refine Below.alloc ?_ (by simp;try omega) _|refine Below.drew ?_))⟩
theorem engNew_e (lb:Nat) (k:Int) (hk:k=0∨k=1) (W:World):Calls Tryz.prog 15 #[.pointer (some ⟨lb,0,none⟩),.int .i64 k] W fun e w'=>∃ ge,e=.returned (.tuple #[.pointer (some ⟨ge,0,none⟩),.int .i64 0])∧w'.cell? ⟨ge,0,none⟩=some (.pointer (some ⟨lb,0,none⟩))∧W.heap.size≤ge∧Below W.heap.size W w':=by
  have hmm:=@run_makeMap Tryz.prog
  have HC:Hid (∀ w,Calls Tryz.prog 32 #[.int .i64 k] w fun e w'=>(∃ p,e=.returned (.tuple #[.pointer p,.int .i64 0]))∧Below w.heap.size w w'):=fun w=>by
    rcases hk with rfl|rfl
    · exact cnw0 w
    · exact cnw1 w
  have HT:Hid (∀ w:World,Calls Tryz.prog 33 #[.int .i64 4] w fun e w'=>e=.returned (.tuple #[.pointer (some ⟨w.heap.size+1,0,none⟩),.int .i64 0])∧Below w.heap.size w w'):=fun w=>(tnew_yes 4 (by decide) (by decide) w).mono (fun _ _ x=>⟨x.1,x.2.2.1⟩)
  clear hk
  go_enter Tryz.func15,Tryz.ntmps15
  go_wp2_with (first
    | (go_at_call 33;refine (HT.out _).mono ?_;rintro e w2 ⟨rfl,hb⟩;have B2:Hid (Below W.heap.size W w2):=Below.step B1.out hb;clear hb)
    | (go_at_call 32;refine (HC.out _).mono ?_;rintro e w1 ⟨⟨p,rfl⟩,hb⟩;have B1:Hid (Below W.heap.size W w1):=hb;clear hb))
  go_ret2
  exact ⟨_,rfl,by simp,by have:=B2.out.size;simp;omega,(B2.out.alloc B2.out.size _).alloc (by have:=B2.out.size;simp;omega) _⟩
set_option maxHeartbeats 4000000 in
theorem started_e (v:Value) (l:List Cls) (k:Int) (hk:k=0∨k=1) (W:World) (h:IsClss W v l):Calls Tryz.prog 7 #[v,.int .i64 k] W fun e w'=>∃ b ge lb,e=.returned (.tuple #[.pointer (some ⟨b,0,none⟩),.pointer (some ⟨ge,0,none⟩),.int .i64 0])∧Below W.heap.size W w'∧WAt b (wld l) w'∧w'.cell? ⟨ge,0,none⟩=some (.pointer (some ⟨lb,0,none⟩))∧w'.cell? ⟨lb,0,none⟩=some (.pointer (some ⟨b,0,none⟩)):=by
  have hCW:=clss_w h
  obtain ⟨ao,cap,rfl,h1,h2,h3⟩:=h
  unfold maxLen at h2
  obtain ⟨L,hL⟩:∃ L,l.length=L:=⟨_,rfl⟩
  have HL:Hid (l.length=L):=hL
  have HI:Hid _:=h3
  have HCW:Hid (∀ c∈l,ClsW c):=hCW
  rw [hL] at h1 ⊢
  clear hL h3 hCW
  have HN:Hid (∀ w:World,Calls Tryz.prog 12 #[] w fun e w'=>e=.returned (.pointer (some ⟨w.heap.size+1,0,none⟩))∧(∃ vp pv,HW w' w.heap.size (w.heap.size+1) w.heap.size P3 vp pv)∧Below w.heap.size w w'):=new_any
  go_enter Tryz.func7,Tryz.ntmps7
  go_wp2_with (first
    | (go_at_call 12;refine (HN.out _).mono ?_;rintro e w2 ⟨rfl,hw,hb⟩;have H2:Hid (∃ vp pv,HW w2 W.heap.size (W.heap.size+1) W.heap.size P3 vp pv):=hw;have B2:Hid (Below W.heap.size W w2):=hb;clear hb hw HN))
  go_loopw [8] (fun iv wr=>∃ (i:Nat),iv=.int .i64 i∧i≤L∧Hid (∃ vp pv,HW wr W.heap.size (W.heap.size+1) W.heap.size (wld (l.take i)) vp pv)∧Hid (Below W.heap.size W wr)) (fun iv _=>L - (intOf iv).toNat)
  case atStart=>exact ⟨0,rfl,Nat.zero_le _,H2,B2⟩
  case round =>
    clear H2 B2
    obtain ⟨i,rfl,hi,hHW,hB⟩:=hrel
    by_cases hlt:i<L
    · obtain ⟨c,hc⟩:∃ c,l[i]?=some c:=⟨_,List.getElem?_eq_getElem (by rw [HL.out];exact hlt)⟩
      obtain ⟨bk,o,rfl,hbk,hcl⟩:=HI.out (fun e=>by rw [e] at hc;simp at hc)
      obtain ⟨vi,vm,hcell,hin⟩:=hcl i c hc
      have bel:Below W.heap.size W wr:=hB.out
      have p0:wr.cell? ⟨bk,o+i * 6,none⟩=some (.string c.nm):=(bel.cell (p:=⟨bk,o+i * 6,none⟩) hbk).trans (hcell 0 _ rfl)
      have p1:wr.cell? ⟨bk,o+i * 6+1,none⟩=some (.string c.su):=(bel.cell (p:=⟨bk,o+i * 6+1,none⟩) hbk).trans (hcell 1 _ rfl)
      have p2:wr.cell? ⟨bk,o+i * 6+2,none⟩=some vi:=(bel.cell (p:=⟨bk,o+i * 6+2,none⟩) hbk).trans (hcell 2 _ rfl)
      have p3:wr.cell? ⟨bk,o+i * 6+3,none⟩=some (.int .i64 c.fl):=(bel.cell (p:=⟨bk,o+i * 6+3,none⟩) hbk).trans (hcell 3 _ rfl)
      have p4:wr.cell? ⟨bk,o+i * 6+4,none⟩=some (.int .i64 c.ld):=(bel.cell (p:=⟨bk,o+i * 6+4,none⟩) hbk).trans (hcell 4 _ rfl)
      have p5:wr.cell? ⟨bk,o+i * 6+5,none⟩=some vm:=(bel.cell (p:=⟨bk,o+i * 6+5,none⟩) hbk).trans (hcell 5 _ rfl)
      have hWI:WI (wld (l.take i)):=wld_wi _ (fun c hc=>HCW.out c (List.mem_of_mem_take hc))
      have HD:Hid (Calls Tryz.prog 13 #[.pointer (some ⟨W.heap.size+1,0,none⟩),.agg #[.string c.nm,.string c.su,vi,.int .i64 c.fl,.int .i64 c.ld,vm]] wr fun e w'=>(∃ u,e=.returned u)∧Hid (∃ vp pv,HW w' W.heap.size (W.heap.size+1) W.heap.size (wld (l.take (i+1))) vp pv)∧Hid (Below W.heap.size W w')):=by
        obtain ⟨vp,pv,hw⟩:=hHW.out
        refine (define_any W.heap.size (W.heap.size+1) W.heap.size _ vp pv c vi vm wr hw hB.out.size (hin.keep bel) hWI.nm).mono ?_
        rintro e w' ⟨rfl,hw',hb',_⟩
        rw [wld_at hc]
        exact ⟨⟨_,rfl⟩,hw',hB.out.trans hb'⟩
      clear hcl hcell hin hc bel hWI hHW hB HI
      go_wp2_with (go_at_call 13;refine HD.out.mono ?_;rintro e w3 ⟨⟨u3,rfl⟩,hw3,hb3⟩;clear HD)
      go_roundw
      case rel=>exact ⟨i+1,by go_num,by omega,hw3,hb3⟩
      case measure=>simp [intOf];omega
    · have e:i=L:=by omega
      subst e
      have HF:Hid (WAt (W.heap.size+1) (wld l) wr):=by
        obtain ⟨vp,pv,hw⟩:=hHW.out
        rw [List.take_of_length_le (by rw [HL.out];exact Nat.le_refl _)] at hw
        exact hw.wat
      clear hHW HI
      have HL2:Hid (∀ (b:Nat) (w:World),Calls Tryz.prog 14 #[.pointer (some ⟨b,0,none⟩)] w fun e w'=>e=.returned (.tuple #[.pointer (some ⟨w.heap.size+1,0,none⟩),.int .i64 0])∧w'.cell? ⟨w.heap.size+1,0,none⟩=some (.pointer (some ⟨b,0,none⟩))∧w.heap.size+2≤w'.heap.size∧Below w.heap.size w w'):=lnew_e
      have HEn:Hid (∀ (lb:Nat) (w:World),Calls Tryz.prog 15 #[.pointer (some ⟨lb,0,none⟩),.int .i64 k] w fun e w'=>∃ ge,e=.returned (.tuple #[.pointer (some ⟨ge,0,none⟩),.int .i64 0])∧w'.cell? ⟨ge,0,none⟩=some (.pointer (some ⟨lb,0,none⟩))∧w.heap.size≤ge∧Below w.heap.size w w'):=fun lb w=>engNew_e lb k hk w
      clear hk
      go_wp2_with (first
        | (go_at_call 14;refine (HL2.out _ _).mono ?_;rintro e w5 ⟨rfl,hc,hz5,hb⟩;have B5:Hid (Below wr.heap.size wr w5):=hb;have C5:Hid _:=hc;clear hb hc HL2)
        | (go_at_call 15;refine (HEn.out _ _).mono ?_;rintro e w6 ⟨ge,rfl,hg,hz,hb⟩;have G6:Hid _:=hg;have B6:Hid (Below w5.heap.size w5 w6):=hb;clear hg hz hb HEn))
      refine bodyPost_ret (v:=.tuple #[.pointer (some ⟨W.heap.size+1,0,none⟩),.pointer (some ⟨ge,0,none⟩),.int .i64 0]) (by simp [results,Tryz.results7,go_sem]) rfl ?_
      have hb6:Below wr.heap.size wr w6:=Below.step B5.out B6.out
      exact ⟨_,_,_,rfl,hB.out.trans (hb6.mono hB.out.size),HF.out.below hb6,G6.out,kc B6.out C5.out⟩
theorem meth_at {b:Nat} {ps:List Plc} {W:World} (h:WAt b ps W) (m1 m2:Int) (q:Plc) (hq:plcI ps m1=some q) (m:HM) (hm:methP q m2=some m) (hB:PlcB q) (code:List (Int×Int)) (hmn:m.n=code.length) (hmx:m.xs=flatN code) (hcp:0<code.length) :
    Calls Tryz.prog 83 #[.pointer (some ⟨b,0,none⟩),.agg #[.int .i64 m1,.int .i64 m2]] W fun e w'=>(∃ g c,e=.returned (.tuple #[.agg #[.string m.nm,.string m.ds,.int .i64 m.fl,.int .i64 m.lo,.int .i64 m.st,.slice (some ⟨g,0,none⟩) code.length c],.int .i64 0])∧w'.ownsRow W.heap.size 28 7 (.slice (some ⟨g,0,none⟩) code.length c) code.length (flatN code))∧Below W.heap.size W w':=by
  refine (method_yes h m1 m2 q hq m hm hB).mono ?_
  rintro e w' ⟨⟨v,rfl,ho⟩,hb⟩
  rw [hmn,hmx] at ho
  obtain ⟨g,c,rfl⟩:=Go.Joins.ownsRow_form ho hcp
  exact ⟨⟨g,c,rfl,ho⟩,hb⟩
theorem run_stat {W:World} {ge lb b:Nat} {ps:List Plc} (hw:WAt b ps W) (hi:WI ps) (hg:W.cell? ⟨ge,0,none⟩=some (.pointer (some ⟨lb,0,none⟩))) (hl:W.cell? ⟨lb,0,none⟩=some (.pointer (some ⟨b,0,none⟩)))
    (q1 q2 q3:ByteArray) (hq1:q1.size≤maxLen) (hq2:q2.size≤maxLen) (hq3:q3.size≤maxLen)
    (x:Int) (s:ByteArray) (d er:Int) (hs:s.size≤maxLen) (eP:Hid (∀ w,Calls Tryz.prog 34 #[.string q1] w fun e w'=>e=.returned (.tuple #[.agg #[.int .i64 x,.string s],.int .i64 0])∧Below w.heap.size w w')) (eH:hldR ps x s=(d,er))
    (m1 m2:Int) (e1:casI ps d 4 0 ⟨#[]⟩=0) (e2:crfI 4 false q1 q2 q3=0) (e3:metR ps d false q1 q2 q3=((m1,m2),0)) (e4:ftsB ps 4 (m1,m2)=true) (eR:rckE q1.data.toList q2.data.toList q3.data.toList=0)
    (q:Plc) (hq:plcI ps m1=some q) (m:HM) (hm:methP q m2=some m) (hB:PlcB q) (code:List (Int×Int)) (hmn:m.n=code.length) (hmx:m.xs=flatN code) (hcp:0<code.length) (hlo:0≤m.lo∧m.lo≤40) (hst:0≤m.st∧m.st≤40)
    (vs:List Int) (va:Option Addr) (vc:Nat) (hv:∀ k x,vs[k]?=some x→I32 x∧∃ g,va=some ⟨g,0,none⟩∧W.cell? ⟨g,k,none⟩=some (.int .i64 x)) (hvl:(vs.length:Int)≤m.lo) (hvn:vs.length≤1000)
    (HP:Hid (∀ w,Calls Tryz.prog 17 #[.string q3] w fun e w'=>(∃ a c vo x s,e=.returned (.tuple #[.agg #[.slice a vs.length c,.bool vo,.int .i64 x,.string s],.int .i64 0])∧∀ j,j<vs.length→∃ g,a=some ⟨g,0,none⟩∧w'.cell? ⟨g,j * 2,none⟩=some (.int .i64 0)∧w'.cell? ⟨g,j * 2+1,none⟩=some (.string ⟨#[]⟩))∧Below w.heap.size w w'))
    (fuel:Int) (nx:Nat→Nat) (pf:Nat→PF) (M:Nat) (v:Int) (hnx:nx 0=0) (hpf:pf 0=⟨[],m.st.toNat,lsI m.lo.toNat vs vs.length⟩)
    (GA:RA→Prop) (hGA:∀ A,GA A→A.bb=.slice none 0 0) (hGA2:∀ he sb fb fc g c,GA ⟨ge,he,sb,fb,fc,.pointer none,.slice none 0 0,fuI fuel,m.nm,m.ds,m.fl,m.lo,m.st,g,c,code,m1,m2⟩)
    (HS:Hid (∀ rb A,GA A→∀ k,k<M→∀ K w,RuAt w K rb A k (nx k) (pf k)→Calls Tryz.prog 25 #[.pointer (some ⟨rb,0,none⟩)] w fun e w'=>e=.returned (.tuple #[])∧RuR K w w' rb A (k+1) (nx (k+1)) (pf (k+1))))
    (HE:Hid (∀ rb A,GA A→∀ K w,RuAt w K rb A M (nx M) (pf M)→Calls Tryz.prog 25 #[.pointer (some ⟨rb,0,none⟩)] w fun e w'=>e=.returned (.tuple #[])∧EndR K w w' rb A (M+1) true v)) :
    Calls Tryz.prog 6 #[.pointer (some ⟨ge,0,none⟩),.agg #[.bool false,.string q1,.string q2,.string q3],.slice va vs.length vc,.int .i64 fuel] W fun e w'=>e=.returned (.tuple #[resV 0 true v (M+1),.int .i64 0])∧Below W.heap.size W w':=by
  refine run_e hg hl q1 q2 q3 va vs.length vc fuel 0 true v (M+1) (fun w hb=>?_) (fun w rb he sb hy hr hst2 hn hb=>?_)
  · refine chkMain_e (W:=w) false q1 q2 q3 vs va vc vs.length hvn rfl (fun k x hk=>?_) (fun w2=>by have:=refCheck_any false q1 q2 q3 hq1 hq2 hq3 w2;rw [eR] at this;exact this) HP
    obtain ⟨h1,g,h2,h3⟩:=hv k x hk
    exact ⟨h1,g,h2,kc hb h3⟩
  · have hrl:rb<w.heap.size:=(Array.getElem?_eq_some_iff.1 hr).1
    refine whole_ret hrl (hst2.lt rfl) hn GA hGA nx pf M v (fun w2 hb2=>?_) (HS.out rb) (HE.out rb)
    have hb3:Below W.heap.size W w2:=Below.step hb hb2
    have hcal:Hid (∀ w3,Below w2.heap.size w2 w3→Calls Tryz.prog 44 #[.pointer (some ⟨b,0,none⟩),.int .i64 d,.int .i64 4,.agg #[.bool false,.string q1,.string q2,.string q3],.agg #[.int .i64 0,.string ⟨#[]⟩]] w3 fun e w'=>e=.returned (.tuple #[.agg #[.int .i64 m1,.int .i64 m2],.int .i64 0])∧Below w3.heap.size w3 w'):=fun w3 hb4=>cal_static (hw.below (Below.step hb3 hb4)) hi d false q1 q2 q3 hq1 hq2 hq3 m1 m2 e1 e2 e3 e4
    have hbg:Hid (∀ w3,Below w2.heap.size w2 w3→Calls Tryz.prog 45 #[.pointer (some ⟨rb,0,none⟩),.agg #[.bool false,.string q1,.string q2,.string q3]] w3 fun e w'=>e=.returned (.int .i64 d)∧Below w3.heap.size w3 w'):=fun w3 hb4=>bgn_e ((hy.below hb2).below hb4) false q1 q2 q3 x s d er (fun w4 _=>eP.out w4) (fun w4 hb5=>by have:=hld_c (hw.below (Below.step (Below.step hb3 hb4) hb5)) x s hs;rw [eH] at this;exact this)
    have hmt:Hid (∀ w3,Below w2.heap.size w2 w3→Calls Tryz.prog 83 #[.pointer (some ⟨b,0,none⟩),.agg #[.int .i64 m1,.int .i64 m2]] w3 fun e w'=>(∃ g c,e=.returned (.tuple #[.agg #[.string m.nm,.string m.ds,.int .i64 m.fl,.int .i64 m.lo,.int .i64 m.st,.slice (some ⟨g,0,none⟩) code.length c],.int .i64 0])∧w'.ownsRow w3.heap.size 28 7 (.slice (some ⟨g,0,none⟩) code.length c) code.length (flatN code))∧Below w3.heap.size w3 w'):=fun w3 hb4=>meth_at (hw.below (Below.step hb3 hb4)) m1 m2 q hq m hm hB code hmn hmx hcp
    refine (begin_e (hy.below hb2) he sb (fuI fuel) ((hb2.block rb hrl).trans hr) (hst2.below hb2) hn false q1 q2 q3 d m1 m2 m.nm m.ds m.fl m.lo m.st code hlo hst hbg hcal hmt vs va vc (fun k x hk=>?_) hvl).mono ?_
    · obtain ⟨_,g,h2,h3⟩:=hv k x hk
      exact ⟨g,h2,kc hb3 h3⟩
    · rintro e w' ⟨rfl,fb,fc,g,c,K,h1,h2,h3,h4⟩
      exact ⟨rfl,_,K,hGA2 he sb fb fc g c,by rw [hnx,hpf];exact h1,h2,h3,h4⟩
theorem comp0_e {W:World} {K:Nat→Prop} {sb rb:Nat} {p:PF} (h:StA W K sb [p]) (hn:¬ K rb) (hc:W.cell? ⟨rb,2,none⟩=some (.pointer (some ⟨sb,0,none⟩))) (ys:List (Bool×Int)) (a:Int) (hx:p.xs=ys++[(false,a),(false,0)]):Calls Tryz.prog 91 #[.pointer (some ⟨rb,0,none⟩),.int .i64 10] W fun e w'=>e=thr 29∧SkR K W w' sb [{ p with xs:=ys }]:=by
  have HA:Hid (Calls Tryz.prog 156 #[.pointer (some ⟨rb,0,none⟩)] W fun e w'=>e=.returned (.int .i64 0)∧SkR K W w' sb [{ p with xs:=ys++[(false,a)] }]):=takeInt_e h hc (ys++[(false,a)]) 0 (by rw [hx];simp)
  have HB:Hid (∀ K1 w,StA w K1 sb [{ p with xs:=ys++[(false,a)] }]→w.cell? ⟨rb,2,none⟩=some (.pointer (some ⟨sb,0,none⟩))→Calls Tryz.prog 156 #[.pointer (some ⟨rb,0,none⟩)] w fun e w'=>e=.returned (.int .i64 a)∧SkR K1 w w' sb [{ p with xs:=ys }]):=fun K1 w s c=>takeInt_e s c ys a rfl
  have HT:Hid (∀ w,Calls Tryz.prog 48 #[.bool true,.int .i64 29] w fun e w'=>e=thr 29∧w'=w):=fun w=>tif_yes 29 w
  have C0:Hid (W.cell? ⟨rb,2,none⟩=some (.pointer (some ⟨sb,0,none⟩))):=hc
  have N0:Hid (¬ K rb):=hn
  clear h hc hx hn
  go_enter Tryz.func91,Tryz.ntmps91
  go_wp2_with (first
    | (go_at_call 48;refine (HT.out _).mono ?_;rintro e w9 ⟨he,hw⟩;obtain rfl:=hw.symm;rw [thr] at he;subst he)
    | (go_at_call 156; refine (HB.out _ _ S1.out C1.out).mono ?_; rintro e w2 ⟨rfl, hk⟩
       have R2:Hid (SkR K W w2 sb [{ p with xs:=ys }]):=SkR.trans A1.out T1.out hk
       clear hk HB S1 A1 T1 C1)
    | (go_at_call 156; refine (HA.out).mono ?_; rintro e w1 ⟨rfl, hk⟩
       obtain ⟨K1,s1,a1,t1⟩:=hk
       have S1:Hid (StA w1 K1 sb [{ p with xs:=ys++[(false,a)] }]):=s1
       have A1:Hid (∀ j,K1 j→K j∨W.heap.size≤j):=a1
       have T1:Hid (Tch K W w1):=t1
       have C1:Hid (w1.cell? ⟨rb,2,none⟩=some (.pointer (some ⟨sb,0,none⟩))):=tchCell t1 N0.out C0.out
       clear s1 a1 t1 HA))
  exact ⟨rfl,rfl,R2.out⟩
theorem stp_div0 {W:World} {K:Nat→Prop} {rb:Nat} {A:RA} {sp nx:Nat} {p:PF} (h:RuAt W K rb A sp nx p) (n:Int) (hi:A.code[nx]?=some (10,n)) (hz:A.code.length≤1000) (hsp:(sp:Int)<A.fu) (hfu:A.fu≤100000) (ys:List (Bool×Int)) (a:Int) (hx:p.xs=ys++[(false,a),(false,0)]) :
    Calls Tryz.prog 25 #[.pointer (some ⟨rb,0,none⟩)] W fun e w'=>e=thr 29∧w'.heap[rb]?=some (.cells (runC A 1 (sp+1) false false 0) 87 (0,0))∧Tch (fun j=>K j∨j=rb∨j=A.fb) W w' :=
  (step_e h 10 n hi hz hsp hfu _ (.inr ⟨29,rfl⟩) (fun w'=>RuR K W w' rb A (sp+1) (nx+1) { p with xs:=ys }) fun _ hw ht=>do_comp0 fun _ hb=>(comp0_e (hw.below hb).sk (hw.below hb).nr (hw.below hb).c.2.1 ys a hx).mono fun _ _ x=>⟨x.1,ruR_of (hw.below hb) (ht.bel hb) x.2⟩).mono fun _ _ ⟨h1,_,h2,_,h4⟩=>⟨h1,h2.hr,h4⟩
theorem run_thr {W:World} {ge lb b:Nat} {ps:List Plc} (hw:WAt b ps W) (hi:WI ps) (hg:W.cell? ⟨ge,0,none⟩=some (.pointer (some ⟨lb,0,none⟩))) (hl:W.cell? ⟨lb,0,none⟩=some (.pointer (some ⟨b,0,none⟩)))
    (q1 q2 q3:ByteArray) (hq1:q1.size≤maxLen) (hq2:q2.size≤maxLen) (hq3:q3.size≤maxLen)
    (x:Int) (s:ByteArray) (d er:Int) (hs:s.size≤maxLen) (eP:Hid (∀ w,Calls Tryz.prog 34 #[.string q1] w fun e w'=>e=.returned (.tuple #[.agg #[.int .i64 x,.string s],.int .i64 0])∧Below w.heap.size w w')) (eH:hldR ps x s=(d,er))
    (m1 m2:Int) (e1:casI ps d 4 0 ⟨#[]⟩=0) (e2:crfI 4 false q1 q2 q3=0) (e3:metR ps d false q1 q2 q3=((m1,m2),0)) (e4:ftsB ps 4 (m1,m2)=true) (eR:rckE q1.data.toList q2.data.toList q3.data.toList=0)
    (q:Plc) (hq:plcI ps m1=some q) (m:HM) (hm:methP q m2=some m) (hB:PlcB q) (code:List (Int×Int)) (hmn:m.n=code.length) (hmx:m.xs=flatN code) (hcp:0<code.length) (hlo:0≤m.lo∧m.lo≤40) (hst:0≤m.st∧m.st≤40)
    (vs:List Int) (va:Option Addr) (vc:Nat) (hv:∀ k x,vs[k]?=some x→I32 x∧∃ g,va=some ⟨g,0,none⟩∧W.cell? ⟨g,k,none⟩=some (.int .i64 x)) (hvl:(vs.length:Int)≤m.lo) (hvn:vs.length≤1000)
    (HP:Hid (∀ w,Calls Tryz.prog 17 #[.string q3] w fun e w'=>(∃ a c vo x s,e=.returned (.tuple #[.agg #[.slice a vs.length c,.bool vo,.int .i64 x,.string s],.int .i64 0])∧∀ j,j<vs.length→∃ g,a=some ⟨g,0,none⟩∧w'.cell? ⟨g,j * 2,none⟩=some (.int .i64 0)∧w'.cell? ⟨g,j * 2+1,none⟩=some (.string ⟨#[]⟩))∧Below w.heap.size w w'))
    (fuel:Int) (nx:Nat→Nat) (pf:Nat→PF) (M:Nat) (E:Int) (hnx:nx 0=0) (hpf:pf 0=⟨[],m.st.toNat,lsI m.lo.toNat vs vs.length⟩)
    (GA:RA→Prop) (hGA:∀ A,GA A→A.bb=.slice none 0 0) (hGA2:∀ he sb fb fc g c,GA ⟨ge,he,sb,fb,fc,.pointer none,.slice none 0 0,fuI fuel,m.nm,m.ds,m.fl,m.lo,m.st,g,c,code,m1,m2⟩)
    (HS:Hid (∀ rb A,GA A→∀ k,k<M→∀ K w,RuAt w K rb A k (nx k) (pf k)→Calls Tryz.prog 25 #[.pointer (some ⟨rb,0,none⟩)] w fun e w'=>e=.returned (.tuple #[])∧RuR K w w' rb A (k+1) (nx (k+1)) (pf (k+1))))
    (HE:Hid (∀ rb A,GA A→∀ K w,RuAt w K rb A M (nx M) (pf M)→Calls Tryz.prog 25 #[.pointer (some ⟨rb,0,none⟩)] w fun e w'=>e=thr E∧w'.heap[rb]?=some (.cells (runC A 1 (M+1) false false 0) 87 (0,0))∧Tch (fun j=>K j∨j=rb∨j=A.fb) w w')) :
    Calls Tryz.prog 6 #[.pointer (some ⟨ge,0,none⟩),.agg #[.bool false,.string q1,.string q2,.string q3],.slice va vs.length vc,.int .i64 fuel] W fun e w'=>e=.returned (.tuple #[resV E false 0 (M+1),.int .i64 0])∧Below W.heap.size W w':=by
  refine run_e hg hl q1 q2 q3 va vs.length vc fuel E false 0 (M+1) (fun w hb=>?_) (fun w rb he sb hy hr hst2 hn hb=>?_)
  · refine chkMain_e (W:=w) false q1 q2 q3 vs va vc vs.length hvn rfl (fun k x hk=>?_) (fun w2=>by have:=refCheck_any false q1 q2 q3 hq1 hq2 hq3 w2;rw [eR] at this;exact this) HP
    obtain ⟨h1,g,h2,h3⟩:=hv k x hk
    exact ⟨h1,g,h2,kc hb h3⟩
  · have hrl:rb<w.heap.size:=(Array.getElem?_eq_some_iff.1 hr).1
    refine whole_thr hrl (hst2.lt rfl) hn GA hGA nx pf M E (fun w2 hb2=>?_) (HS.out rb) (HE.out rb)
    have hb3:Below W.heap.size W w2:=Below.step hb hb2
    have hcal:Hid (∀ w3,Below w2.heap.size w2 w3→Calls Tryz.prog 44 #[.pointer (some ⟨b,0,none⟩),.int .i64 d,.int .i64 4,.agg #[.bool false,.string q1,.string q2,.string q3],.agg #[.int .i64 0,.string ⟨#[]⟩]] w3 fun e w'=>e=.returned (.tuple #[.agg #[.int .i64 m1,.int .i64 m2],.int .i64 0])∧Below w3.heap.size w3 w'):=fun w3 hb4=>cal_static (hw.below (Below.step hb3 hb4)) hi d false q1 q2 q3 hq1 hq2 hq3 m1 m2 e1 e2 e3 e4
    have hbg:Hid (∀ w3,Below w2.heap.size w2 w3→Calls Tryz.prog 45 #[.pointer (some ⟨rb,0,none⟩),.agg #[.bool false,.string q1,.string q2,.string q3]] w3 fun e w'=>e=.returned (.int .i64 d)∧Below w3.heap.size w3 w'):=fun w3 hb4=>bgn_e ((hy.below hb2).below hb4) false q1 q2 q3 x s d er (fun w4 _=>eP.out w4) (fun w4 hb5=>by have:=hld_c (hw.below (Below.step (Below.step hb3 hb4) hb5)) x s hs;rw [eH] at this;exact this)
    have hmt:Hid (∀ w3,Below w2.heap.size w2 w3→Calls Tryz.prog 83 #[.pointer (some ⟨b,0,none⟩),.agg #[.int .i64 m1,.int .i64 m2]] w3 fun e w'=>(∃ g c,e=.returned (.tuple #[.agg #[.string m.nm,.string m.ds,.int .i64 m.fl,.int .i64 m.lo,.int .i64 m.st,.slice (some ⟨g,0,none⟩) code.length c],.int .i64 0])∧w'.ownsRow w3.heap.size 28 7 (.slice (some ⟨g,0,none⟩) code.length c) code.length (flatN code))∧Below w3.heap.size w3 w'):=fun w3 hb4=>meth_at (hw.below (Below.step hb3 hb4)) m1 m2 q hq m hm hB code hmn hmx hcp
    refine (begin_e (hy.below hb2) he sb (fuI fuel) ((hb2.block rb hrl).trans hr) (hst2.below hb2) hn false q1 q2 q3 d m1 m2 m.nm m.ds m.fl m.lo m.st code hlo hst hbg hcal hmt vs va vc (fun k x hk=>?_) hvl).mono ?_
    · obtain ⟨_,g,h2,h3⟩:=hv k x hk
      exact ⟨g,h2,kc hb3 h3⟩
    · rintro e w' ⟨rfl,fb,fc,g,c,K,h1,h2,h3,h4⟩
      exact ⟨rfl,_,K,hGA2 he sb fb fc g c,by rw [hnx,hpf];exact h1,h2,h3,h4⟩
def insI (i:Int×Int):Ins:=⟨i.1,i.2,⟨#[]⟩,false,⟨#[]⟩,⟨#[]⟩,⟨#[]⟩⟩
def cdA:List (Int×Int):=[(2,0),(1,1),(7,0),(36,0)]
def clA:Cls:=⟨⟨#[65]⟩,⟨#[79,98,106,101,99,116]⟩,[],1,0,[⟨⟨#[102]⟩,⟨#[40,73,41,73]⟩,9,1,2,cdA.map insI⟩]⟩
theorem wA_cas:casI (wld [clA]) 3 4 0 ⟨#[]⟩=0:=by decide +kernel
theorem wA_crf:crfI 4 false ⟨#[65]⟩ ⟨#[102]⟩ ⟨#[40,73,41,73]⟩=0:=by decide +kernel
theorem wA_met:metR (wld [clA]) 3 false ⟨#[65]⟩ ⟨#[102]⟩ ⟨#[40,73,41,73]⟩=((3,0),0):=by decide +kernel
theorem wA_fts:ftsB (wld [clA]) 4 (3,0)=true:=by decide +kernel
theorem wA_hld:hldR (wld [clA]) 0 ⟨#[65]⟩=(3,0):=by decide +kernel
theorem wA_prf:prfT [65]=(0,[65])∧prfE [65]=0:=by decide +kernel
theorem wA_rck:rckE [65] [102] [40,73,41,73]=0:=by decide +kernel
theorem wA_pd:pdE [40,73,41,73]=0∧pdD [40,73,41,73]=([(0,[])],some (0,[])):=by decide +kernel
def clS (cn ds:ByteArray) (lo st:Int) (cd:List (Int×Int)):Cls:=⟨cn,⟨#[79,98,106,101,99,116]⟩,[],1,0,[⟨⟨#[102]⟩,ds,9,lo,st,cd.map insI⟩]⟩
theorem flatN_I:∀ cd:List (Int×Int),flatI (cd.map insI)=flatN cd
  | []=>rfl
  | i::r=>by rw [List.map_cons,flatI,List.flatMap_cons,flatN];exact congrArg _ (flatN_I r)
theorem clss_lit {w:World} {n1 n2 n3 t1 t2 t3 k:Nat} {cn ds:ByteArray} {lo st:Int} {cd:List (Int×Int)}
    (h1:w.heap[n1]?=some (.cells #[.string cn,.string ⟨#[79,98,106,101,99,116]⟩,.slice none 0 0,.int .i64 1,.int .i64 0,.slice (some ⟨n2,0,none⟩) 1 1] t1 (0,0)))
    (h2:w.heap[n2]?=some (.cells #[.string ⟨#[102]⟩,.string ds,.int .i64 9,.int .i64 lo,.int .i64 st,.slice (some ⟨n3,0,none⟩) k k] t2 (0,0)))
    (h3:w.heap[n3]?=some (.cells (flatN cd).toArray t3 (0,0))) (hk:cd.length=k) (hk2:k≤1000) (ok:ClsW (clS cn ds lo st cd)):IsClss w (.slice (some ⟨n1,0,none⟩) 1 1) [clS cn ds lo st cd]:=by
  have l1:=(Array.getElem?_eq_some_iff.1 h1).1
  have l2:=(Array.getElem?_eq_some_iff.1 h2).1
  have l3:=(Array.getElem?_eq_some_iff.1 h3).1
  have hI:IsInss w (.slice (some ⟨n3,0,none⟩) k k) (cd.map insI):=by
    refine ⟨_,k,by rw [List.length_map,hk],by rw [List.length_map,hk];exact Nat.le_refl _,by unfold maxLen;omega,fun _=>⟨n3,0,rfl,l3,fun j i hi=>?_⟩⟩
    rw [List.getElem?_map] at hi
    cases e:cd[j]? with
    | none=>rw [e] at hi;cases hi
    | some p =>
      rw [e] at hi
      cases hi
      have hz:=fun m (hm:m<7)=>(flatN_at cd j p e m hm)
      have hc:=fun m (hm:m<7)=>(cell_of_row w n3 (j * 7+m) _ _ _ h3).trans ((List.getElem?_toArray ..).trans (hz m hm))
      rw [Nat.zero_add]
      exact ⟨hc 0 (by decide),hc 1 (by decide),hc 2 (by decide),hc 3 (by decide),hc 4 (by decide),hc 5 (by decide),hc 6 (by decide)⟩
  have c2:=fun m=>cell_of_row w n2 m _ _ _ h2
  have c1:=fun m=>cell_of_row w n1 m _ _ _ h1
  refine ⟨_,1,rfl,Nat.le_refl _,by unfold maxLen;omega,fun _=>⟨n1,0,rfl,l1,fun j c hj=>?_⟩⟩
  obtain ⟨rfl,rfl⟩:j=0∧c=clS cn ds lo st cd:=by
    cases j with
    | zero=>simp at hj;exact ⟨rfl,hj.symm⟩
    | succ j=>simp at hj
  refine ⟨.slice none 0 0,.slice (some ⟨n2,0,none⟩) 1 1,fun j u hu=>?_,?_⟩
  · rw [Nat.zero_mul,Nat.zero_add]
    rw [c1 j]
    match j,hu with
    | 0,hu=>exact hu
    | 1,hu=>exact hu
    | 2,hu=>exact hu
    | 3,hu=>exact hu
    | 4,hu=>exact hu
    | 5,hu=>exact hu
    | (j+6),hu=>simp at hu
  · refine ⟨⟨none,0,rfl,Nat.le_refl _,by unfold maxLen;omega,fun h=>absurd rfl h⟩,?_,.inl rfl,.inr ⟨_,_,_,rfl⟩,?_,ok⟩
    · refine ⟨_,1,rfl,Nat.le_refl _,by unfold maxLen;omega,fun _=>⟨n2,0,rfl,l2,fun j m hj=>?_⟩⟩
      obtain ⟨rfl,rfl⟩:j=0∧m=⟨⟨#[102]⟩,ds,9,lo,st,cd.map insI⟩:=by
        cases j with
        | zero=>exact ⟨rfl,by simpa [clS] using hj.symm⟩
        | succ j=>simp [clS] at hj
      exact ⟨c2 0,c2 1,c2 2,c2 3,c2 4,_,c2 5,hI⟩
    · rintro bk o n cap e j hj v hv
      cases e
      have hj0:j=0:=by simp [clS] at hj;exact hj
      subst hj0
      rw [show (0+0 * 6+5:Nat)=5 from rfl,c2 5] at hv
      cases hv
      exact .inr ⟨_,_,_,rfl⟩
theorem wA_w:ClsW clA:=by
  unfold ClsW
  refine ⟨by decide,by decide,fun p hp=>(by simp [clA] at hp),by decide,by decide,fun m hm=>?_⟩
  simp [clA] at hm
  subst hm
  unfold MthW
  refine ⟨by decide,by decide,by decide,by decide,by decide,fun i hi=>?_⟩
  simp [cdA] at hi
  rcases hi with rfl|rfl|rfl|rfl <;> (refine ⟨by decide,?_⟩;simp [InsOK,insI];exact Nat.zero_le _)
theorem wA_plc:(plcI (wld [clA]) 3).map (fun q=>q.c)=some (hcOf clA):=by kernel_rfl
theorem wA_meth:∃ q m,plcI (wld [clA]) 3=some q∧methP q 0=some m∧PlcB q∧m=hmOf ⟨⟨#[102]⟩,⟨#[40,73,41,73]⟩,9,1,2,cdA.map insI⟩:=by
  cases e:plcI (wld [clA]) 3 with
  | none=>have:=wA_plc;rw [e] at this;cases this
  | some q =>
    have h:=wA_plc
    rw [e] at h
    have hq:q.c=hcOf clA:=by simpa using h
    refine ⟨q,hmOf ⟨⟨#[102]⟩,⟨#[40,73,41,73]⟩,9,1,2,cdA.map insI⟩,rfl,by rw [methP,hq];rfl,?_,rfl⟩
    refine (wld_wi [clA] (fun c hc=>by simp at hc;subst hc;exact wA_w)).pb q ?_
    rw [show (3:Int)=((3:Nat):Int) from rfl,plcI_nat] at e
    exact List.mem_of_getElem? e
end Go.Proofs.YtgoncofcmchnjaaGreatDoor.Sk
