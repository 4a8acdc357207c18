import Derived.Test.YtlohdfpinmdljaaGreatDoorEnS
import Derived.Test.YtlohdfpinmdljaaGreatDoorTaA
import Derived.Test.YtlohdfpinmdljaaGreatDoorAcC
import Derived.Test.YtlohdfpinmdljaaGreatDoorHrT
import Derived.Test.YtlohdfpinmdljaaGreatDoorEnAk
set_option maxRecDepth 100000
namespace Go.Proofs.YtlohdfpinmdljaaGreatDoor.Sk
open Go.RowKit Go.Maps
theorem two_set {w:World} {n N:Nat} {t:TypeId} {z0 z1:Value} (h:w.heap[n]?=some (.cells #[z0,z1] t (0,0))) (hN:N≤n) (a0 a1:Value):((w.setCell ⟨n,0,none⟩ a0).setCell ⟨n,1,none⟩ a1).heap[n]?=some (.cells #[a0,a1] t (0,0))∧Below N w ((w.setCell ⟨n,0,none⟩ a0).setCell ⟨n,1,none⟩ a1):=by
  refine ⟨?_,((Below.refl _ w).setCell hN _).setCell hN _⟩
  rw [Go.Joins.block_setCell (Go.Joins.block_setCell h _) _]
  rfl
theorem callApp1 (xs:List Int) (i:Nat) (x:Int) (h:xs[i]?=some x):flatV ((xs.take (i+1)).map fun x=>(false,x))=flatV ((xs.take i).map fun x=>(false,x))++[.bool false,.int .i64 x]:=by
  rw [List.take_add_one,h,Option.toList_some,List.map_append,flatV_app]
  rfl
set_option maxHeartbeats 4000000 in
theorem begin_e {W:World} {rb ge lb b:Nat} (h:WyAt W rb ge lb b) (he sb:Nat) (fu:Int) (hr:W.heap[rb]?=some (.cells (run0 ge he sb fu) 88 (0,0))) (hst:StA W (fun j=>j=sb) sb []) (hn:rb≠sb)
    (y:Bool) (q1 q2 q3:ByteArray) (d ci cj:Int) (nm ds:ByteArray) (fl lo st:Int) (code:List (Int×Int)) (hlo:0≤lo∧lo≤40) (hsto:0≤st∧st≤40)
    (HG:Hid (∀ w,Below W.heap.size W w→Calls Tryz.prog 46 #[.pointer (some ⟨rb,0,none⟩),.agg #[.bool y,.string q1,.string q2,.string q3]] w fun e w'=>e=.returned (.int .i64 d)∧Below w.heap.size w w'))
    (HC:Hid (∀ w,Below W.heap.size W w→Calls Tryz.prog 45 #[.pointer (some ⟨b,0,none⟩),.int .i64 d,.int .i64 4,.agg #[.bool y,.string q1,.string q2,.string q3],.agg #[.int .i64 0,.string ⟨#[]⟩]] w fun e w'=>e=.returned (.tuple #[.agg #[.int .i64 ci,.int .i64 cj],.int .i64 0])∧Below w.heap.size w w'))
    (HM:Hid (∀ w,Below W.heap.size W w→Calls Tryz.prog 84 #[.pointer (some ⟨b,0,none⟩),.agg #[.int .i64 ci,.int .i64 cj]] w fun e w'=>(∃ g c,e=.returned (.tuple #[.agg #[.string nm,.string ds,.int .i64 fl,.int .i64 lo,.int .i64 st,.slice (some ⟨g,0,none⟩) code.length c],.int .i64 0])∧w'.ownsRow w.heap.size 28 7 (.slice (some ⟨g,0,none⟩) code.length c) code.length (flatN code))∧Below w.heap.size w w'))
    (vs:List Int) (va:Option Addr) (vc:Nat) (hv:∀ k x,vs[k]?=some x→∃ g,va=some ⟨g,0,none⟩∧W.cell? ⟨g,k,none⟩=some (.int .i64 x)) (hvl:(vs.length:Int)≤lo) :
    Calls Tryz.prog 25 #[.pointer (some ⟨rb,0,none⟩),.agg #[.bool y,.string q1,.string q2,.string q3],.slice va vs.length vc] W fun e w'=>e=.returned (.tuple #[])∧∃ fb fc g c K,RuAt w' K rb ⟨ge,he,sb,fb,fc,.pointer none,.slice none 0 0,fu,nm,ds,fl,lo,st,g,c,code,ci,cj⟩ 0 0 ⟨[],st.toNat,lsI lo.toNat vs vs.length⟩∧W.heap.size≤fb∧(∀ j,K j→j=sb∨W.heap.size≤j)∧Tch (fun j=>j=sb∨j=rb) W w':=by
  have HWl:Hid (∀ w,Below W.heap.size W w→Calls Tryz.prog 42 #[.pointer (some ⟨lb,0,none⟩)] w fun e w'=>e=.returned (.pointer (some ⟨b,0,none⟩))∧w'=w):=fun w hb=>lwld_e lb _ w (h.below hb).l
  have HO:Hid (∀ w,Calls Tryz.prog 44 #[.agg #[.int .i64 ci,.int .i64 cj],.int .i64 0] w fun e w'=>e=.returned (.agg #[.int .i64 ci,.int .i64 cj])∧Below w.heap.size w w'):=fun w=>oT_id ci cj w
  have y1:=h.r
  have y2:=h.g
  have rl:rb<W.heap.size:=World.block_lt_of_cell? W _ y1
  have gl:ge<W.heap.size:=World.block_lt_of_cell? W _ y2
  have sl:sb<W.heap.size:=hst.lt rfl
  have HEN:Hid (∀ w vs' va' vc',Below W.heap.size W w→vs'=vs→(∀ k x,vs[k]?=some x→∃ g,va'=some ⟨g,0,none⟩∧¬ (g=sb)∧w.cell? ⟨g,k * 2,none⟩=some (.bool false)∧w.cell? ⟨g,k * 2+1,none⟩=some (.int .i64 x))→Calls Tryz.prog 47 #[.pointer (some ⟨rb,0,none⟩),.agg #[.int .i64 ci,.int .i64 cj],.slice va' vs.length vc'] w _):=fun w vs' va' vc' hb _ hc=>enter_e (h.below hb) he sb fu ((hb.block rb rl).trans hr) (K0:=fun j=>j=sb) (hst.below hb) hn ci cj nm ds fl lo st code hlo hsto (fun w2 hb2=>HM.out w2 (Below.step hb hb2)) vs va' vc' hc hvl
  have HV:Hid (∀ k x,vs[k]?=some x→∃ g,va=some ⟨g,0,none⟩∧W.cell? ⟨g,k,none⟩=some (.int .i64 x)):=hv
  obtain ⟨i0,hi0,hz0,hz1,hz2⟩:=info_parts Tryz.hinfoVl
  clear h hst hv hr HM
  go_enter Tryz.func25,Tryz.ntmps25
  go_upto_region 1 with fail
  refine wp_name (fun U hU=>?_)
  have u0:U.cell? ⟨W.heap.size,0,none⟩=some (.bool y):=by rw [hU];simp
  have u1:U.cell? ⟨W.heap.size,1,none⟩=some (.string q1):=by rw [hU];simp
  have u2:U.cell? ⟨W.heap.size,2,none⟩=some (.string q2):=by rw [hU];simp
  have u3:U.cell? ⟨W.heap.size,3,none⟩=some (.string q3):=by rw [hU];simp
  have uz:Hid (U.heap.size=W.heap.size+1):=by rw [hU];exact szA _ _
  have bU:Below W.heap.size W U:=by rw [hU];exact (by repeat (first|exact Below.refl _ _|refine Below.setCell ?_ (by simp;try omega) _|refine Below.alloc ?_ (by simp;try omega) _|refine Below.drew ?_))
  have u4:=kc bU y1
  have u5:=kc bU y2
  have BU:Hid (Below W.heap.size W U):=bU
  have HS:Hid (∀ w':World,Below U.heap.size U w'→(w'.cell? ⟨W.heap.size,0,none⟩=some (.bool y)∧w'.cell? ⟨W.heap.size,1,none⟩=some (.string q1)∧w'.cell? ⟨W.heap.size,2,none⟩=some (.string q2)∧w'.cell? ⟨W.heap.size,3,none⟩=some (.string q3)∧w'.cell? ⟨rb,0,none⟩=some (.pointer (some ⟨ge,0,none⟩))∧w'.cell? ⟨ge,0,none⟩=some (.pointer (some ⟨lb,0,none⟩)))):=fun w' hb=>⟨kc hb u0,kc hb u1,kc hb u2,kc hb u3,kc hb u4,kc hb u5⟩
  clear hU bU y1 y2 u0 u1 u2 u3 u4 u5
  go_cut [6] (fun s6 wx=>Hid (∃ n,s6=.pointer (some ⟨n,0,none⟩)∧W.heap.size<n∧wx.heap[n]?=some (.cells #[.int .i64 ci,.int .i64 cj] 138 (0,0))∧Below W.heap.size W wx))
  case first =>
    go_region_held3 (fun w'=>w'.cell? ⟨W.heap.size,0,none⟩=some (.bool y)∧w'.cell? ⟨W.heap.size,1,none⟩=some (.string q1)∧w'.cell? ⟨W.heap.size,2,none⟩=some (.string q2)∧w'.cell? ⟨W.heap.size,3,none⟩=some (.string q3)∧w'.cell? ⟨rb,0,none⟩=some (.pointer (some ⟨ge,0,none⟩))∧w'.cell? ⟨ge,0,none⟩=some (.pointer (some ⟨lb,0,none⟩))) (exact HS.out _ (by first|exact V4.out|exact V4.out.alloc V4.out.size _|exact V3.out|exact V3.out.alloc V3.out.size _|exact V2.out|exact V2.out.alloc V2.out.size _|exact Below.refl _ _|exact (Below.refl _ _).drew|exact ((Below.refl _ _).drew).alloc (Nat.le_refl _) _|exact (V4.out.setCell (by first|exact Nat.le_refl _|exact V2.out.size|exact V3.out.size|exact V4.out.size) _).setCell (by first|exact Nat.le_refl _|exact V2.out.size|exact V3.out.size|exact V4.out.size) _|exact ((V4.out.alloc V4.out.size _).setCell (by first|exact Nat.le_refl _|exact V2.out.size|exact V3.out.size|exact V4.out.size) _).setCell (by first|exact Nat.le_refl _|exact V2.out.size|exact V3.out.size|exact V4.out.size) _)) (first
      | (go_at_call 44;refine (HO.out _).mono ?_;rintro e w4 ⟨rfl,hb⟩;have B4:Hid (Below W.heap.size W w4):=Below.step (by first|exact B4.out|exact B4.out.alloc B4.out.size _|exact B3.out|exact B3.out.alloc B3.out.size _|exact B2.out|exact B2.out.alloc B2.out.size _|exact BU.out|exact BU.out.drew|exact BU.out.drew.alloc BU.out.size _) hb;have V4:Hid (Below U.heap.size U w4):=Below.step (by first|exact V4.out|exact V4.out.alloc V4.out.size _|exact V3.out|exact V3.out.alloc V3.out.size _|exact V2.out|exact V2.out.alloc V2.out.size _|exact Below.refl _ _|exact (Below.refl _ _).drew|exact ((Below.refl _ _).drew).alloc (Nat.le_refl _) _) hb;(first|(have xx:=k2d hb zB.out;obtain ⟨xB,x0,x1,xf,xL,xN⟩:=xx)|(have xx:=k2d (n:=w3.heap.size) (a0:=.int .i64 0) (a1:=.int .i64 0) (t:=138) hb (haA w3 _ rfl);obtain ⟨xB,x0,x1,xf,xL,xN⟩:=xx)|skip);clear hb)
      | (go_at_call 45;refine (HC.out _ (by first|exact B4.out|exact B4.out.alloc B4.out.size _|exact B3.out|exact B3.out.alloc B3.out.size _|exact B2.out|exact B2.out.alloc B2.out.size _|exact BU.out|exact BU.out.drew|exact BU.out.drew.alloc BU.out.size _)).mono ?_;rintro e w3 ⟨rfl,hb⟩;have B3:Hid (Below W.heap.size W w3):=Below.step (by first|exact B4.out|exact B4.out.alloc B4.out.size _|exact B3.out|exact B3.out.alloc B3.out.size _|exact B2.out|exact B2.out.alloc B2.out.size _|exact BU.out|exact BU.out.drew|exact BU.out.drew.alloc BU.out.size _) hb;have V3:Hid (Below U.heap.size U w3):=Below.step (by first|exact V4.out|exact V4.out.alloc V4.out.size _|exact V3.out|exact V3.out.alloc V3.out.size _|exact V2.out|exact V2.out.alloc V2.out.size _|exact Below.refl _ _|exact (Below.refl _ _).drew|exact ((Below.refl _ _).drew).alloc (Nat.le_refl _) _) hb;(first|(have xx:=k2d hb yB.out;obtain ⟨zB,z0,z1,zf,zL,zN⟩:=xx)|(have xx:=k2d (n:=w2.heap.size) (a0:=.int .i64 0) (a1:=.int .i64 0) (t:=138) hb (haA w2 _ rfl);obtain ⟨zB,z0,z1,zf,zL,zN⟩:=xx)|skip);clear hb)
      | (go_at_call 46;refine (HG.out _ (by first|exact B4.out|exact B4.out.alloc B4.out.size _|exact B3.out|exact B3.out.alloc B3.out.size _|exact B2.out|exact B2.out.alloc B2.out.size _|exact BU.out|exact BU.out.drew|exact BU.out.drew.alloc BU.out.size _)).mono ?_;rintro e w2 ⟨rfl,hb⟩;have B2:Hid (Below W.heap.size W w2):=Below.step (by first|exact B4.out|exact B4.out.alloc B4.out.size _|exact B3.out|exact B3.out.alloc B3.out.size _|exact B2.out|exact B2.out.alloc B2.out.size _|exact BU.out|exact BU.out.drew|exact BU.out.drew.alloc BU.out.size _) hb;have V2:Hid (Below U.heap.size U w2):=Below.step (by first|exact V4.out|exact V4.out.alloc V4.out.size _|exact V3.out|exact V3.out.alloc V3.out.size _|exact V2.out|exact V2.out.alloc V2.out.size _|exact Below.refl _ _|exact (Below.refl _ _).drew|exact ((Below.refl _ _).drew).alloc (Nat.le_refl _) _) hb;(first|(have yy:=k2d (n:=U.heap.size) (a0:=.int .i64 0) (a1:=.int .i64 0) (t:=138) hb (haA U _ rfl);obtain ⟨yB,y0,y1,yf,yL,yN⟩:=yy)|skip);clear hb)
      | (go_at_call 42;refine (HWl.out _ (by first|exact B4.out|exact B4.out.alloc B4.out.size _|exact B3.out|exact B3.out.alloc B3.out.size _|exact B2.out|exact B2.out.alloc B2.out.size _|exact BU.out|exact BU.out.drew|exact BU.out.drew.alloc BU.out.size _)).mono ?_;rintro e w1 ⟨rfl,hw⟩;obtain rfl:=hw.symm))
    all_goals (go_wp2_with fail)
    all_goals go_meet
    all_goals first
      | (refine ⟨w4.heap.size,rfl,?_⟩;exact ⟨by have:=V4.out.size;have:=uz.out;omega,haA _ _ rfl,B4.out.alloc B4.out.size _⟩)
      | (refine ⟨w3.heap.size,rfl,?_⟩;have hz:W.heap.size<w3.heap.size:=(by have:=V3.out.size;have:=uz.out;omega);exact ⟨hz,(two_set (N:=0) xB.out (Nat.zero_le _) _ _).1,(B4.out.setCell (Nat.le_of_lt hz) _).setCell (Nat.le_of_lt hz) _⟩)
      | (refine ⟨w2.heap.size,rfl,?_⟩;have hz:W.heap.size<w2.heap.size:=(by have:=V2.out.size;have:=uz.out;omega);exact ⟨hz,(two_set (N:=0) xB.out (Nat.zero_le _) _ _).1,(B4.out.setCell (Nat.le_of_lt hz) _).setCell (Nat.le_of_lt hz) _⟩)
      | (refine ⟨U.heap.size,rfl,?_⟩;have hz:W.heap.size<U.heap.size:=(by have:=uz.out;omega);exact ⟨hz,(two_set (N:=0) xB.out (Nat.zero_le _) _ _).1,(B4.out.setCell (Nat.le_of_lt hz) _).setCell (Nat.le_of_lt hz) _⟩)
  case rest =>
    obtain ⟨n,rfl,hnW,hm,hbl⟩:=hcut.out
    have BC:Hid (Below W.heap.size W wc):=hbl
    have MC:Hid (wc.heap[n]?=some (.cells #[.int .i64 ci,.int .i64 cj] 138 (0,0))):=hm
    have NC:Hid (W.heap.size<n):=hnW
    clear hcut HG HC HO HWl HS BU uz hnW hm hbl
    go_wp2
    go_loopw [7,29] (fun sv iv wr=>∃ (i:Nat) (va2:Option Addr) (vc2:Nat),sv=.slice va2 i vc2∧iv=.int .i64 (i:Int)∧i≤vs.length∧Hid (wr.ownsRow wc.heap.size 32 2 (.slice va2 i vc2) i (flatV ((vs.take i).map fun x=>(false,x))))∧Hid (Below wc.heap.size wc wr)) (fun _ iv _=>vs.length - (intOf iv).toNat)
    case atStart=>exact ⟨0,none,0,rfl,rfl,Nat.zero_le _,World.ownsRow_nil _ _ _ _,(by repeat (first|exact Below.refl _ _|refine Below.setCell ?_ (by simp;try omega) _|refine Below.alloc ?_ (by simp;try omega) _|refine Below.drew ?_))⟩
    case round =>
      obtain ⟨i,va2,vc2,rfl,rfl,hi,hO,hB⟩:=hrel
      by_cases hlt:i<vs.length
      · obtain ⟨x,hx⟩:∃ x,vs[i]?=some x:=⟨_,List.getElem?_eq_getElem hlt⟩
        obtain ⟨g,rfl,hc⟩:=HV.out i x hx
        have gl:g<W.heap.size:=World.block_lt_of_cell? W _ hc
        have x0:wr.cell? ⟨g,i,none⟩=some (.int .i64 x):=((BC.out.trans (hB.out.mono BC.out.size)).cell (p:=⟨g,i,none⟩) gl).trans hc
        have hst:Hid _:=callApp1 vs i x hx
        have hiI:(i:Int)<(vs.length:Int):=by omega
        have hv40:Hid (vs.length≤40):=by have:=hlo.2;show vs.length≤40;omega
        have hOl:Hid (wr.ownsRow wc.heap.size 32 2 (.slice va2 i vc2) i (flatV ((vs.take i).map fun x=>(false,x)))):=hO
        obtain ⟨XS,hXS⟩:∃ XS,flatV ((vs.take i).map fun x=>(false,x))=XS:=⟨_,rfl⟩
        rw [hXS] at hO hOl hst
        clear hc hx HEN hXS
        go_wp2_with (first
          | (at_builtin;refine wpList_append_own _ rfl _ _ 143 rfl wc.heap.size 32 i0 (.agg #[.bool false,.int .i64 0]) 2 16 Tryz.underlying143 hi0 hz0 hz1 hz2 rfl (by decide) (.slice va2 i vc2) i XS rfl (hO.out.alloc _) ⟨wr.heap.size,0,none⟩ 1 1 [.bool false,.int .i64 x] rfl rfl ?c1 ?c2 ?c3 ?c4 ?c5 ?_))
        case c1=>intro jj u hj;rw [addr_add];match jj,hj with
          | 0,hj=>simp at hj;subst hj;simp [go_sem]
          | 1,hj=>simp at hj;subst hj;simp [go_sem]
          | (jj+2),hj=>simp at hj
        case c2=>intro u hu;simp at hu;rcases hu with rfl|rfl <;> rfl
        case c3=>have:=hv40.out;unfold maxLen;omega
        case c4=>have:=hv40.out;omega
        case c5=>have:=hB.out.size;simp;omega
        intro v' w4 hown hgrow _
        obtain ⟨va3,vc3,rfl⟩:=ownv hown
        have B4:Hid (Below wc.heap.size wc w4):=by
          have hb1:Below wc.heap.size wc (wr.alloc (.cells #[.bool false,.int .i64 x] 32)):=hB.out.alloc hB.out.size _
          refine hb1.grown hgrow hb1.size (fun x hx=>?_)
          have:=(hOl.out.lt x hx).1
          omega
        have O4:Hid (w4.ownsRow wc.heap.size 32 2 (.slice va3 (i+1) vc3) (i+1) (flatV ((vs.take (i+1)).map fun x=>(false,x)))):=by
          rw [hst.out];exact hown
        clear hown hgrow hOl hO
        go_wp2
        go_roundw
        case rel=>exact ⟨i+1,va3,vc3,by go_num,by go_num,by omega,O4,B4⟩
        case measure=>simp [intOf];omega
      · have e:i=vs.length:=by omega
        subst e
        have hOl:=hO.out
        rw [List.take_length] at hOl
        have h5:Hid (Below W.heap.size W wr):=BC.out.trans (hB.out.mono BC.out.size)
        have hcl:∀ k x,vs[k]?=some x→∃ g,va2=some ⟨g,0,none⟩∧¬ (g=sb)∧wr.cell? ⟨g,k * 2,none⟩=some (.bool false)∧wr.cell? ⟨g,k * 2+1,none⟩=some (.int .i64 x):=by
          intro k x hk
          have hkl:k<vs.length:=(List.getElem?_eq_some_iff.1 hk).1
          obtain ⟨g,c2,hform⟩:=Go.Joins.ownsRow_form hOl (by omega)
          have hrow:=hOl
          rw [hform] at hrow
          injection hform with hca _ hcc
          have hf:=flatV_at (vs.map fun x=>(false,x)) k (false,x) (by rw [List.getElem?_map,hk];rfl)
          refine ⟨g,hca,fun e=>?_,(hrow.cellAt (k * 2) (by omega)).trans hf.1,(hrow.cellAt (k * 2+1) (by omega)).trans hf.2⟩
          have:=(hrow.lt g rfl).1
          have:=BC.out.size
          omega
        have HE:=HEN.out wr vs va2 vc2 h5.out rfl hcl
        have HE2:Hid _:=HE
        have m0:wr.cell? ⟨n,0,none⟩=some (.int .i64 ci):=(kc hB.out (cell_of_row wc n 0 _ _ _ MC.out)).trans rfl
        have m1:wr.cell? ⟨n,1,none⟩=some (.int .i64 cj):=(kc hB.out (cell_of_row wc n 1 _ _ _ MC.out)).trans rfl
        clear HE hOl hcl HEN hO
        go_wp2_with (go_at_call 47;refine Calls.mono HE2.out ?_;rintro e w9 ⟨rfl,hh⟩)
        obtain ⟨fb,fc,g,c,K,h1,h2,h3,h4⟩:=hh
        refine bodyPost_end (results_none rfl _ _ _) rfl ⟨rfl,fb,fc,g,c,K,h1,Nat.le_trans h5.out.size h2,fun j hj=>(h3 j hj).imp id (fun y=>Nat.le_trans h5.out.size y),?_⟩
        exact ((Tch.refl _ W).bel h5.out).trans h4 (fun j _ x=>x)
theorem lnew_e (b:Nat) (W:World):Calls Tryz.prog 15 #[.pointer (some ⟨b,0,none⟩)] W fun e w'=>e=.returned (.tuple #[.pointer (some ⟨W.heap.size+1,0,none⟩),.int .i64 0])∧w'.cell? ⟨W.heap.size+1,0,none⟩=some (.pointer (some ⟨b,0,none⟩))∧W.heap.size+2≤w'.heap.size∧Below W.heap.size W w':=by
  have hmm:=@run_makeMap Tryz.prog
  go_enter Tryz.func15,Tryz.ntmps15
  go_wp2
  go_ret2
  exact ⟨by simp,by simp,by simp,((Below.refl _ _).alloc (Nat.le_refl _) _).alloc (by simp) _⟩
theorem cnw0 (W:World):Calls Tryz.prog 33 #[.int .i64 0] W fun e w'=>(∃ p,e=.returned (.tuple #[.pointer p,.int .i64 0]))∧Below W.heap.size W w':=by
  go_enter Tryz.func33,Tryz.ntmps33
  go_wp2
  go_ret2
  exact ⟨⟨_,rfl⟩,(by repeat (first|exact Below.refl _ _|refine Below.setCell ?_ (by simp;try omega) _|refine Below.alloc ?_ (by simp;try omega) _|refine Below.drew ?_))⟩
theorem cnw1 (W:World):Calls Tryz.prog 33 #[.int .i64 1] W fun e w'=>(∃ p,e=.returned (.tuple #[.pointer p,.int .i64 0]))∧Below W.heap.size W w':=by
  go_enter Tryz.func33,Tryz.ntmps33
  go_wp2
  go_ret2
  exact ⟨⟨_,rfl⟩,(by repeat (first|exact Below.refl _ _|refine Below.setCell ?_ (by simp;try omega) _|refine Below.alloc ?_ (by simp;try omega) _|refine Below.drew ?_))⟩
theorem engNew_e (lb:Nat) (k:Int) (hk:k=0∨k=1) (W:World):Calls Tryz.prog 16 #[.pointer (some ⟨lb,0,none⟩),.int .i64 k] W fun e w'=>∃ ge,e=.returned (.tuple #[.pointer (some ⟨ge,0,none⟩),.int .i64 0])∧w'.cell? ⟨ge,0,none⟩=some (.pointer (some ⟨lb,0,none⟩))∧W.heap.size≤ge∧Below W.heap.size W w':=by
  have hmm:=@run_makeMap Tryz.prog
  have HC:Hid (∀ w,Calls Tryz.prog 33 #[.int .i64 k] w fun e w'=>(∃ p,e=.returned (.tuple #[.pointer p,.int .i64 0]))∧Below w.heap.size w w'):=fun w=>by
    rcases hk with rfl|rfl
    · exact cnw0 w
    · exact cnw1 w
  have HT:Hid (∀ w:World,Calls Tryz.prog 34 #[.int .i64 4] w fun e w'=>e=.returned (.tuple #[.pointer (some ⟨w.heap.size+1,0,none⟩),.int .i64 0])∧Below w.heap.size w w'):=fun w=>(tnew_yes 4 (by decide) (by decide) w).mono (fun _ _ x=>⟨x.1,x.2.2.1⟩)
  clear hk
  go_enter Tryz.func16,Tryz.ntmps16
  go_wp2_with (first
    | (go_at_call 34;refine (HT.out _).mono ?_;rintro e w2 ⟨rfl,hb⟩;have B2:Hid (Below W.heap.size W w2):=Below.step B1.out hb;clear hb)
    | (go_at_call 33;refine (HC.out _).mono ?_;rintro e w1 ⟨⟨p,rfl⟩,hb⟩;have B1:Hid (Below W.heap.size W w1):=hb;clear hb))
  go_ret2
  exact ⟨_,rfl,by simp,by have:=B2.out.size;simp;omega,(B2.out.alloc B2.out.size _).alloc (by have:=B2.out.size;simp;omega) _⟩
set_option maxHeartbeats 4000000 in
theorem started_e (v:Value) (l:List Cls) (k:Int) (hk:k=0∨k=1) (W:World) (h:IsClss W v l):Calls Tryz.prog 8 #[v,.int .i64 k] W fun e w'=>∃ b ge lb,e=.returned (.tuple #[.pointer (some ⟨b,0,none⟩),.pointer (some ⟨ge,0,none⟩),.int .i64 0])∧Below W.heap.size W w'∧WAt b (wld l) w'∧w'.cell? ⟨ge,0,none⟩=some (.pointer (some ⟨lb,0,none⟩))∧w'.cell? ⟨lb,0,none⟩=some (.pointer (some ⟨b,0,none⟩)):=by
  have hCW:=clss_w h
  obtain ⟨ao,cap,rfl,h1,h2,h3⟩:=h
  unfold maxLen at h2
  obtain ⟨L,hL⟩:∃ L,l.length=L:=⟨_,rfl⟩
  have HL:Hid (l.length=L):=hL
  have HI:Hid _:=h3
  have HCW:Hid (∀ c∈l,ClsW c):=hCW
  rw [hL] at h1 ⊢
  clear hL h3 hCW
  have HN:Hid (∀ w:World,Calls Tryz.prog 13 #[] w fun e w'=>e=.returned (.pointer (some ⟨w.heap.size+1,0,none⟩))∧(∃ vp pv,HW w' w.heap.size (w.heap.size+1) w.heap.size P3 vp pv)∧Below w.heap.size w w'):=new_any
  go_enter Tryz.func8,Tryz.ntmps8
  go_wp2_with (first
    | (go_at_call 13;refine (HN.out _).mono ?_;rintro e w2 ⟨rfl,hw,hb⟩;have H2:Hid (∃ vp pv,HW w2 W.heap.size (W.heap.size+1) W.heap.size P3 vp pv):=hw;have B2:Hid (Below W.heap.size W w2):=hb;clear hb hw HN))
  go_loopw [8] (fun iv wr=>∃ (i:Nat),iv=.int .i64 i∧i≤L∧Hid (∃ vp pv,HW wr W.heap.size (W.heap.size+1) W.heap.size (wld (l.take i)) vp pv)∧Hid (Below W.heap.size W wr)) (fun iv _=>L - (intOf iv).toNat)
  case atStart=>exact ⟨0,rfl,Nat.zero_le _,H2,B2⟩
  case round =>
    clear H2 B2
    obtain ⟨i,rfl,hi,hHW,hB⟩:=hrel
    by_cases hlt:i<L
    · obtain ⟨c,hc⟩:∃ c,l[i]?=some c:=⟨_,List.getElem?_eq_getElem (by rw [HL.out];exact hlt)⟩
      obtain ⟨bk,o,rfl,hbk,hcl⟩:=HI.out (fun e=>by rw [e] at hc;simp at hc)
      obtain ⟨vi,vm,hcell,hin⟩:=hcl i c hc
      have bel:Below W.heap.size W wr:=hB.out
      have p0:wr.cell? ⟨bk,o+i * 6,none⟩=some (.string c.nm):=(bel.cell (p:=⟨bk,o+i * 6,none⟩) hbk).trans (hcell 0 _ rfl)
      have p1:wr.cell? ⟨bk,o+i * 6+1,none⟩=some (.string c.su):=(bel.cell (p:=⟨bk,o+i * 6+1,none⟩) hbk).trans (hcell 1 _ rfl)
      have p2:wr.cell? ⟨bk,o+i * 6+2,none⟩=some vi:=(bel.cell (p:=⟨bk,o+i * 6+2,none⟩) hbk).trans (hcell 2 _ rfl)
      have p3:wr.cell? ⟨bk,o+i * 6+3,none⟩=some (.int .i64 c.fl):=(bel.cell (p:=⟨bk,o+i * 6+3,none⟩) hbk).trans (hcell 3 _ rfl)
      have p4:wr.cell? ⟨bk,o+i * 6+4,none⟩=some (.int .i64 c.ld):=(bel.cell (p:=⟨bk,o+i * 6+4,none⟩) hbk).trans (hcell 4 _ rfl)
      have p5:wr.cell? ⟨bk,o+i * 6+5,none⟩=some vm:=(bel.cell (p:=⟨bk,o+i * 6+5,none⟩) hbk).trans (hcell 5 _ rfl)
      have hWI:WI (wld (l.take i)):=wld_wi _ (fun c hc=>HCW.out c (List.mem_of_mem_take hc))
      have HD:Hid (Calls Tryz.prog 14 #[.pointer (some ⟨W.heap.size+1,0,none⟩),.agg #[.string c.nm,.string c.su,vi,.int .i64 c.fl,.int .i64 c.ld,vm]] wr fun e w'=>(∃ u,e=.returned u)∧Hid (∃ vp pv,HW w' W.heap.size (W.heap.size+1) W.heap.size (wld (l.take (i+1))) vp pv)∧Hid (Below W.heap.size W w')):=by
        obtain ⟨vp,pv,hw⟩:=hHW.out
        refine (define_any W.heap.size (W.heap.size+1) W.heap.size _ vp pv c vi vm wr hw hB.out.size (hin.keep bel) hWI.nm).mono ?_
        rintro e w' ⟨rfl,hw',hb',_⟩
        rw [wld_at hc]
        exact ⟨⟨_,rfl⟩,hw',hB.out.trans hb'⟩
      clear hcl hcell hin hc bel hWI hHW hB HI
      go_wp2_with (go_at_call 14;refine HD.out.mono ?_;rintro e w3 ⟨⟨u3,rfl⟩,hw3,hb3⟩;clear HD)
      go_roundw
      case rel=>exact ⟨i+1,by go_num,by omega,hw3,hb3⟩
      case measure=>simp [intOf];omega
    · have e:i=L:=by omega
      subst e
      have HF:Hid (WAt (W.heap.size+1) (wld l) wr):=by
        obtain ⟨vp,pv,hw⟩:=hHW.out
        rw [List.take_of_length_le (by rw [HL.out];exact Nat.le_refl _)] at hw
        exact hw.wat
      clear hHW HI
      have HL2:Hid (∀ (b:Nat) (w:World),Calls Tryz.prog 15 #[.pointer (some ⟨b,0,none⟩)] w fun e w'=>e=.returned (.tuple #[.pointer (some ⟨w.heap.size+1,0,none⟩),.int .i64 0])∧w'.cell? ⟨w.heap.size+1,0,none⟩=some (.pointer (some ⟨b,0,none⟩))∧w.heap.size+2≤w'.heap.size∧Below w.heap.size w w'):=lnew_e
      have HEn:Hid (∀ (lb:Nat) (w:World),Calls Tryz.prog 16 #[.pointer (some ⟨lb,0,none⟩),.int .i64 k] w fun e w'=>∃ ge,e=.returned (.tuple #[.pointer (some ⟨ge,0,none⟩),.int .i64 0])∧w'.cell? ⟨ge,0,none⟩=some (.pointer (some ⟨lb,0,none⟩))∧w.heap.size≤ge∧Below w.heap.size w w'):=fun lb w=>engNew_e lb k hk w
      clear hk
      go_wp2_with (first
        | (go_at_call 15;refine (HL2.out _ _).mono ?_;rintro e w5 ⟨rfl,hc,hz5,hb⟩;have B5:Hid (Below wr.heap.size wr w5):=hb;have C5:Hid _:=hc;clear hb hc HL2)
        | (go_at_call 16;refine (HEn.out _ _).mono ?_;rintro e w6 ⟨ge,rfl,hg,hz,hb⟩;have G6:Hid _:=hg;have B6:Hid (Below w5.heap.size w5 w6):=hb;clear hg hz hb HEn))
      refine bodyPost_ret (v:=.tuple #[.pointer (some ⟨W.heap.size+1,0,none⟩),.pointer (some ⟨ge,0,none⟩),.int .i64 0]) (by simp [results,Tryz.results8,go_sem]) rfl ?_
      have hb6:Below wr.heap.size wr w6:=Below.step B5.out B6.out
      exact ⟨_,_,_,rfl,hB.out.trans (hb6.mono hB.out.size),HF.out.below hb6,G6.out,kc B6.out C5.out⟩
theorem meth_at {b:Nat} {ps:List Plc} {W:World} (h:WAt b ps W) (m1 m2:Int) (q:Plc) (hq:plcI ps m1=some q) (m:HM) (hm:methP q m2=some m) (hB:PlcB q) (code:List (Int×Int)) (hmn:m.n=code.length) (hmx:m.xs=flatN code) (hcp:0<code.length) :
    Calls Tryz.prog 84 #[.pointer (some ⟨b,0,none⟩),.agg #[.int .i64 m1,.int .i64 m2]] W fun e w'=>(∃ g c,e=.returned (.tuple #[.agg #[.string m.nm,.string m.ds,.int .i64 m.fl,.int .i64 m.lo,.int .i64 m.st,.slice (some ⟨g,0,none⟩) code.length c],.int .i64 0])∧w'.ownsRow W.heap.size 28 7 (.slice (some ⟨g,0,none⟩) code.length c) code.length (flatN code))∧Below W.heap.size W w':=by
  refine (method_yes h m1 m2 q hq m hm hB).mono ?_
  rintro e w' ⟨⟨v,rfl,ho⟩,hb⟩
  rw [hmn,hmx] at ho
  obtain ⟨g,c,rfl⟩:=Go.Joins.ownsRow_form ho hcp
  exact ⟨⟨g,c,rfl,ho⟩,hb⟩
theorem run_stat {W:World} {ge lb b:Nat} {ps:List Plc} (hw:WAt b ps W) (hi:WI ps) (hg:W.cell? ⟨ge,0,none⟩=some (.pointer (some ⟨lb,0,none⟩))) (hl:W.cell? ⟨lb,0,none⟩=some (.pointer (some ⟨b,0,none⟩)))
    (q1 q2 q3:ByteArray) (hq1:q1.size≤maxLen) (hq2:q2.size≤maxLen) (hq3:q3.size≤maxLen)
    (x:Int) (s:ByteArray) (d er:Int) (hs:s.size≤maxLen) (eP:Hid (∀ w,Calls Tryz.prog 35 #[.string q1] w fun e w'=>e=.returned (.tuple #[.agg #[.int .i64 x,.string s],.int .i64 0])∧Below w.heap.size w w')) (eH:hldR ps x s=(d,er))
    (m1 m2:Int) (e1:casI ps d 4 0 ⟨#[]⟩=0) (e2:crfI 4 false q1 q2 q3=0) (e3:metR ps d false q1 q2 q3=((m1,m2),0)) (e4:ftsB ps 4 (m1,m2)=true) (eR:rckE q1.data.toList q2.data.toList q3.data.toList=0)
    (q:Plc) (hq:plcI ps m1=some q) (m:HM) (hm:methP q m2=some m) (hB:PlcB q) (code:List (Int×Int)) (hmn:m.n=code.length) (hmx:m.xs=flatN code) (hcp:0<code.length) (hlo:0≤m.lo∧m.lo≤40) (hst:0≤m.st∧m.st≤40)
    (vs:List Int) (va:Option Addr) (vc:Nat) (hv:∀ k x,vs[k]?=some x→I32 x∧∃ g,va=some ⟨g,0,none⟩∧W.cell? ⟨g,k,none⟩=some (.int .i64 x)) (hvl:(vs.length:Int)≤m.lo) (hvn:vs.length≤1000)
    (HP:Hid (∀ w,Calls Tryz.prog 18 #[.string q3] w fun e w'=>(∃ a c vo x s,e=.returned (.tuple #[.agg #[.slice a vs.length c,.bool vo,.int .i64 x,.string s],.int .i64 0])∧∀ j,j<vs.length→∃ g,a=some ⟨g,0,none⟩∧w'.cell? ⟨g,j * 2,none⟩=some (.int .i64 0)∧w'.cell? ⟨g,j * 2+1,none⟩=some (.string ⟨#[]⟩))∧Below w.heap.size w w'))
    (fuel:Int) (nx:Nat→Nat) (pf:Nat→PF) (M:Nat) (v:Int) (hnx:nx 0=0) (hpf:pf 0=⟨[],m.st.toNat,lsI m.lo.toNat vs vs.length⟩)
    (GA:RA→Prop) (hGA:∀ A,GA A→A.bb=.slice none 0 0) (hGA2:∀ he sb fb fc g c,GA ⟨ge,he,sb,fb,fc,.pointer none,.slice none 0 0,fuI fuel,m.nm,m.ds,m.fl,m.lo,m.st,g,c,code,m1,m2⟩)
    (HS:Hid (∀ rb A,GA A→∀ k,k<M→∀ K w,RuAt w K rb A k (nx k) (pf k)→Calls Tryz.prog 26 #[.pointer (some ⟨rb,0,none⟩)] w fun e w'=>e=.returned (.tuple #[])∧RuR K w w' rb A (k+1) (nx (k+1)) (pf (k+1))))
    (HE:Hid (∀ rb A,GA A→∀ K w,RuAt w K rb A M (nx M) (pf M)→Calls Tryz.prog 26 #[.pointer (some ⟨rb,0,none⟩)] w fun e w'=>e=.returned (.tuple #[])∧EndR K w w' rb A (M+1) true v)) :
    Calls Tryz.prog 6 #[.pointer (some ⟨ge,0,none⟩),.agg #[.bool false,.string q1,.string q2,.string q3],.slice va vs.length vc,.int .i64 fuel] W fun e w'=>e=.returned (.tuple #[resV 0 true v (M+1),.int .i64 0])∧Below W.heap.size W w':=by
  refine run_e hg hl q1 q2 q3 va vs.length vc fuel 0 true v (M+1) (fun w hb=>?_) (fun w rb he sb hy hr hst2 hn hb=>?_)
  · refine chkMain_e (W:=w) false q1 q2 q3 vs va vc vs.length hvn rfl (fun k x hk=>?_) (fun w2=>by have:=refCheck_any false q1 q2 q3 hq1 hq2 hq3 w2;rw [eR] at this;exact this) HP
    obtain ⟨h1,g,h2,h3⟩:=hv k x hk
    exact ⟨h1,g,h2,kc hb h3⟩
  · have hrl:rb<w.heap.size:=(Array.getElem?_eq_some_iff.1 hr).1
    refine whole_ret hrl (hst2.lt rfl) hn GA hGA nx pf M v (fun w2 hb2=>?_) (HS.out rb) (HE.out rb)
    have hb3:Below W.heap.size W w2:=Below.step hb hb2
    have hcal:Hid (∀ w3,Below w2.heap.size w2 w3→Calls Tryz.prog 45 #[.pointer (some ⟨b,0,none⟩),.int .i64 d,.int .i64 4,.agg #[.bool false,.string q1,.string q2,.string q3],.agg #[.int .i64 0,.string ⟨#[]⟩]] w3 fun e w'=>e=.returned (.tuple #[.agg #[.int .i64 m1,.int .i64 m2],.int .i64 0])∧Below w3.heap.size w3 w'):=fun w3 hb4=>cal_static (hw.below (Below.step hb3 hb4)) hi d false q1 q2 q3 hq1 hq2 hq3 m1 m2 e1 e2 e3 e4
    have hbg:Hid (∀ w3,Below w2.heap.size w2 w3→Calls Tryz.prog 46 #[.pointer (some ⟨rb,0,none⟩),.agg #[.bool false,.string q1,.string q2,.string q3]] w3 fun e w'=>e=.returned (.int .i64 d)∧Below w3.heap.size w3 w'):=fun w3 hb4=>bgn_e ((hy.below hb2).below hb4) false q1 q2 q3 x s d er (fun w4 _=>eP.out w4) (fun w4 hb5=>by have:=hld_c (hw.below (Below.step (Below.step hb3 hb4) hb5)) x s hs;rw [eH] at this;exact this)
    have hmt:Hid (∀ w3,Below w2.heap.size w2 w3→Calls Tryz.prog 84 #[.pointer (some ⟨b,0,none⟩),.agg #[.int .i64 m1,.int .i64 m2]] w3 fun e w'=>(∃ g c,e=.returned (.tuple #[.agg #[.string m.nm,.string m.ds,.int .i64 m.fl,.int .i64 m.lo,.int .i64 m.st,.slice (some ⟨g,0,none⟩) code.length c],.int .i64 0])∧w'.ownsRow w3.heap.size 28 7 (.slice (some ⟨g,0,none⟩) code.length c) code.length (flatN code))∧Below w3.heap.size w3 w'):=fun w3 hb4=>meth_at (hw.below (Below.step hb3 hb4)) m1 m2 q hq m hm hB code hmn hmx hcp
    refine (begin_e (hy.below hb2) he sb (fuI fuel) ((hb2.block rb hrl).trans hr) (hst2.below hb2) hn false q1 q2 q3 d m1 m2 m.nm m.ds m.fl m.lo m.st code hlo hst hbg hcal hmt vs va vc (fun k x hk=>?_) hvl).mono ?_
    · obtain ⟨_,g,h2,h3⟩:=hv k x hk
      exact ⟨g,h2,kc hb3 h3⟩
    · rintro e w' ⟨rfl,fb,fc,g,c,K,h1,h2,h3,h4⟩
      exact ⟨rfl,_,K,hGA2 he sb fb fc g c,by rw [hnx,hpf];exact h1,h2,h3,h4⟩
set_option maxHeartbeats 2000000 in
theorem run_eo {W:World} {ge lb b:Nat} (hg:W.cell? ⟨ge,0,none⟩=some (.pointer (some ⟨lb,0,none⟩))) (hl:W.cell? ⟨lb,0,none⟩=some (.pointer (some ⟨b,0,none⟩))) (q1 q2 q3:ByteArray) (va:Option Addr) (nv vc:Nat) (fuel:Int) (th:Int) (hs:Bool) (v:Int) (sp:Nat) (o:ByteArray)
    (HCk:Hid (∀ w,Below W.heap.size W w→Calls Tryz.prog 10 #[.agg #[.bool false,.string q1,.string q2,.string q3],.slice va nv vc] w fun e w'=>e=.returned (.int .i64 0)∧Below w.heap.size w w'))
    (HWh:Hid (∀ w rb he sb,WyAt w rb ge lb b→w.heap[rb]?=some (.cells (run0 ge he sb (fuI fuel)) 88 (0,0))→StA w (fun j=>j=sb) sb []→rb≠sb→W.heap.size≤rb→W.heap.size≤sb→Below W.heap.size W w→Calls Tryz.prog 12 #[.pointer (some ⟨rb,0,none⟩),.agg #[.bool false,.string q1,.string q2,.string q3],.slice va nv vc] w fun e w'=>e=.returned (resO th hs v sp o)∧Tch (fun j=>j=sb∨j=rb) w w')) :
    Calls Tryz.prog 6 #[.pointer (some ⟨ge,0,none⟩),.agg #[.bool false,.string q1,.string q2,.string q3],.slice va nv vc,.int .i64 fuel] W fun e w'=>e=.returned (.tuple #[resO th hs v sp o,.int .i64 0])∧Below W.heap.size W w':=by
  have HMd:Hid (∀ w,Below W.heap.size W w→Calls Tryz.prog 9 #[.pointer (some ⟨ge,0,none⟩)] w fun e w'=>e=.returned (.bool true)∧w'=w):=fun w hb=>made_yes (kc hb hg)
  have HNr:Hid (∀ w,Below W.heap.size W w→Calls Tryz.prog 11 #[.pointer (some ⟨ge,0,none⟩),.int .i64 fuel] w fun e w'=>∃ rb he sb,e=.returned (.tuple #[.pointer (some ⟨rb,0,none⟩),.int .i64 0])∧w'.heap[rb]?=some (.cells (run0 ge he sb (fuI fuel)) 88 (0,0))∧StA w' (fun j=>j=sb) sb []∧rb≠sb∧w.heap.size≤rb∧w.heap.size≤sb∧Below w.heap.size w w'):=fun w hb=>newRun_e (kc hb hg) (kc hb hl) fuel
  have HG:Hid (W.cell? ⟨ge,0,none⟩=some (.pointer (some ⟨lb,0,none⟩))∧W.cell? ⟨lb,0,none⟩=some (.pointer (some ⟨b,0,none⟩))):=⟨hg,hl⟩
  clear hg hl
  go_enter Tryz.func6,Tryz.ntmps6
  go_wp2_with (first
    | (go_at_call 12; refine (HWh.out _ rb he sb ⟨(cell_of_row w2 rb 0 _ _ _ RR.out).trans rfl, kc B2.out HG.out.1, kc B2.out HG.out.2⟩ RR.out SR.out NR.out.1 (by have := NR.out.2; omega) (by have := NR.out.2; omega) B2.out).mono ?_; rintro e w3 ⟨he, ht⟩; rw [resO] at he; subst he
       have hz3:=ht.size
       have B3:Hid (Below W.heap.size W w3):=B2.out.trans (ht.below B2.out.size (fun j hj=>by have:=NR.out.2;rcases hj with rfl|rfl <;> omega))
       have hq3:w3.heap[W.heap.size+1]?=_:=(ht.blk (W.heap.size+1) pL (fun hj=>by have:=NR.out.2;rcases hj with h|h <;> omega)).trans pB.out
       have p3:Hid (w3.heap[W.heap.size+1]?=some (.cells #[.string ⟨#[]⟩,.int .i64 0,.bool false,.bool false,.int .i64 0,.int .i64 0] 34 (0,0))):=hq3
       have o0:w3.cell? ⟨W.heap.size+1,0,none⟩=some (.string ⟨#[]⟩):=(cell_of_row w3 _ 0 _ _ _ hq3).trans rfl
       have o1:w3.cell? ⟨W.heap.size+1,1,none⟩=some (.int .i64 0):=(cell_of_row w3 _ 1 _ _ _ hq3).trans rfl
       have o2:w3.cell? ⟨W.heap.size+1,2,none⟩=some (.bool false):=(cell_of_row w3 _ 2 _ _ _ hq3).trans rfl
       have o3:w3.cell? ⟨W.heap.size+1,3,none⟩=some (.bool false):=(cell_of_row w3 _ 3 _ _ _ hq3).trans rfl
       have o4:w3.cell? ⟨W.heap.size+1,4,none⟩=some (.int .i64 0):=(cell_of_row w3 _ 4 _ _ _ hq3).trans rfl
       have o5:w3.cell? ⟨W.heap.size+1,5,none⟩=some (.int .i64 0):=(cell_of_row w3 _ 5 _ _ _ hq3).trans rfl
       have oz:=fun k=>frozen_of_row w3 (W.heap.size+1) k _ _ hq3
       clear ht hq3 HWh)
    | (go_at_call 11; refine (HNr.out _ B1.out).mono ?_; rintro e w2 ⟨rb, he, sb, rfl, hrr, hst, hne, h1, h2, hb⟩
       have RR:Hid (w2.heap[rb]?=some (.cells (run0 ge he sb (fuI fuel)) 88 (0,0))):=hrr
       have SR:Hid (StA w2 (fun j=>j=sb) sb []):=hst
       have hz1:=B1.out.size
       have NR:Hid (rb≠sb∧W.heap.size+1<rb∧W.heap.size+1<sb):=⟨hne,by omega,by omega⟩
       have B2:Hid (Below W.heap.size W w2):=Below.step B1.out hb
       have M2:=four_kc (n:=W.heap.size) hb mB
       obtain ⟨mB2,m0,m1,m2,m3,mf,mL,mN⟩:=M2
       have P2:=six_kc (n:=W.heap.size+1) hb pB.out
       obtain ⟨pB,p0,p1,p2,p3,p4,p5,pf,pL,pN⟩:=P2
       clear hrr hst hne h1 h2 hb HNr B1)
    | (go_at_call 10; refine (HCk.out _ (by repeat (first | exact Below.refl _ _ | refine Below.setCell ?_ (by simp; try omega) _ | refine Below.alloc ?_ (by simp; try omega) _ | refine Below.drew ?_))).mono ?_; rintro e w1 ⟨rfl, hb⟩
       have B1:Hid (Below W.heap.size W w1):=Below.step (by repeat (first|exact Below.refl _ _|refine Below.setCell ?_ (by simp;try omega) _|refine Below.alloc ?_ (by simp;try omega) _|refine Below.drew ?_)) hb
       have M1:=four_kc (n:=W.heap.size) hb (hkA (haA W _ rfl))
       obtain ⟨mB,m0,m1,m2,m3,mf,mL,mN⟩:=M1
       have P1:=six_kc (n:=W.heap.size+1) hb (haA (W.alloc _) _ (szA _ _))
       obtain ⟨pB,p0,p1,p2,p3,p4,p5,pf,pL,pN⟩:=P1
       clear hb HCk)
    | (go_at_call 9;refine (HMd.out _ (by repeat (first|exact Below.refl _ _|refine Below.setCell ?_ (by simp;try omega) _|refine Below.alloc ?_ (by simp;try omega) _|refine Below.drew ?_))).mono ?_;rintro e w0 ⟨rfl,hw⟩;obtain rfl:=hw.symm))
  refine bodyPost_ret (v:=.tuple #[resO th hs v sp o,.int .i64 0]) (by simp [results,Tryz.results6,go_sem,resO, *]) rfl ⟨rfl,?_⟩
  exact ((((((B3.out.setCell (by show W.heap.size≤W.heap.size+1;omega) _).setCell (by show W.heap.size≤W.heap.size+1;omega) _).setCell (by show W.heap.size≤W.heap.size+1;omega) _).setCell (by show W.heap.size≤W.heap.size+1;omega) _).setCell (by show W.heap.size≤W.heap.size+1;omega) _).setCell (by show W.heap.size≤W.heap.size+1;omega) _)
theorem own_low {w:World} {B B' e s:Nat} {v:Value} {n:Nat} {xs:List Value} (h:w.ownsRow B' e s v n xs) (hb:B≤B'):w.ownsRow B e s v n xs:=by
  refine ⟨h.1,?_⟩
  rcases h.2 with x|⟨g,cap,cur,h1,h2,h3⟩
  · exact .inl x
  · exact .inr ⟨g,cap,cur,h1,Nat.le_trans hb h2,h3⟩
theorem fin_set {rb B n sp:Nat} {hs:Bool} {v:Int} {o:List UInt8} {w:World} (h:FinO rb (B+1) n sp hs v o w) (hb:rb<B) (x:Value):FinO rb B n sp hs v o (w.setCell ⟨B,0,none⟩ x):=by
  obtain ⟨A,h1,h2,h3,h4⟩:=h
  refine ⟨A,(Below.heap_setCell _ _ _ _ (fun e=>?_)).trans h1,own_keep (own_low h2 (by omega)) (fun g hg=>Below.heap_setCell _ _ _ _ (fun e=>?_)),h3,h4⟩
  · have e2:rb=B:=e
    omega
  · have e2:g=B:=e
    have:=(h2.lt g hg).1
    omega
def HCn (GA:RA→Prop) (nx:Nat→Nat) (pf:Nat→PF) (out:Nat→List UInt8) (q1 q2 q3:ByteArray) (av:Value) (n sp:Nat) (hs:Bool) (v th:Int) (o:List UInt8):Prop :=
  ∀ rb sb U bb mb ab,1≠rb→1≠sb→rb<U.heap.size→sb<U.heap.size→bb≠rb→bb≠sb→TenIn U→U.cell? ⟨bb,0,none⟩=some (.pointer (some ⟨rb,0,none⟩))→U.cell? ⟨mb,0,none⟩=some (.bool false)→U.cell? ⟨mb,1,none⟩=some (.string q1)→U.cell? ⟨mb,2,none⟩=some (.string q2)→U.cell? ⟨mb,3,none⟩=some (.string q3)→U.cell? ⟨ab,0,none⟩=some av →
    Hid (∀ w2,Below U.heap.size U w2→Calls Tryz.prog 25 #[.pointer (some ⟨rb,0,none⟩),.agg #[.bool false,.string q1,.string q2,.string q3],av] w2 fun e w'=>e=.returned (.tuple #[])∧LpO w2 rb sb GA nx pf out 0 w') →
    Calls Tryz.prog 23 #[.func (.func 24) #[] #[.pointer (some ⟨bb,0,none⟩),.pointer (some ⟨mb,0,none⟩),.pointer (some ⟨ab,0,none⟩)]] U fun e w'=>e=.returned (.int .i64 th)∧FinO rb U.heap.size n sp hs v o w'∧Tch (fun j=>j=sb∨j=rb) U w'
def StpO (GA:RA→Prop) (nx:Nat→Nat) (pf:Nat→PF) (out:Nat→List UInt8) (M:Nat):Prop :=
  ∀ rb A,GA A→∀ k,k<M→∀ K w B,RuAt w K rb A k (nx k) (pf k)→OutAt w K rb B A (out k)→B≤w.heap.size→TenIn w→¬ K 1→1≠rb→1≠A.fb→Calls Tryz.prog 26 #[.pointer (some ⟨rb,0,none⟩)] w fun e w'=>e=.returned (.tuple #[])∧RuO K w w' rb B A (k+1) (nx (k+1)) (pf (k+1)) (out (k+1))
theorem lpO_stp {GA:RA→Prop} {nx:Nat→Nat} {pf:Nat→PF} {out:Nat→List UInt8} {M rb sb:Nat} {W:World} (hGA:∀ A b1 b2,GA A→GA { A with ba:=b1,bb:=b2 }) (HS:Hid (StpO GA nx pf out M)) (hT:TenIn W) (h1:1≠rb) (h2:1≠sb) :
    Hid (∀ k,k<M→∀ w,LpO W rb sb GA nx pf out k w→Calls Tryz.prog 26 #[.pointer (some ⟨rb,0,none⟩)] w fun e w'=>e=.returned (.tuple #[])∧LpO W rb sb GA nx pf out (k+1) w'):=fun k hk w ⟨ht,A,K,hg,hr,ho,hf,hkk⟩=>by
  have hlt:=hT.lt
  have hz:=ht.size
  refine (HS.out rb A hg k hk K w W.heap.size hr ho hz (hT.tch ht (fun x=>x.elim h2 h1)) (fun x=>(hkk 1 x).elim h2 (fun y=>by omega)) h1 (by omega)).mono ?_
  rintro e w' ⟨rfl,h⟩
  exact ⟨rfl,LpO.step hGA ht hg hf hkk h⟩
theorem lpO_I {GA:RA→Prop} {nx:Nat→Nat} {pf:Nat→PF} {out:Nat→List UInt8} {rb sb:Nat} {W:World} (k:Nat) (w:World) (h:LpO W rb sb GA nx pf out k w):Tch (fun j=>j=sb∨j=rb) W w∧spOf rb w=k∧∃ fb fc,w.cell? ⟨rb,3,none⟩=some (.slice (some ⟨fb,0,none⟩) 1 fc):=by
  obtain ⟨ht,A,K,hg,hr,ho,hf,hkk⟩:=h
  exact ⟨ht,hr.sp,A.fb,A.fc,hr.c.2.2.1⟩
theorem hc_ret {GA:RA→Prop} {nx:Nat→Nat} {pf:Nat→PF} {out:Nat→List UInt8} {q1 q2 q3:ByteArray} {av:Value} (M:Nat) (hs:Bool) (v:Int) (hGA:∀ A b1 b2,GA A→GA { A with ba:=b1,bb:=b2 }) (HS:Hid (StpO GA nx pf out M))
    (HE:Hid (∀ rb A,GA A→∀ K w,RuAt w K rb A M (nx M) (pf M)→Calls Tryz.prog 26 #[.pointer (some ⟨rb,0,none⟩)] w fun e w'=>e=.returned (.tuple #[])∧EndR K w w' rb A (M+1) hs v)):HCn GA nx pf out q1 q2 q3 av 0 (M+1) hs v 0 (out M):=by
  intro rb sb U bb mb ab h1 h2 hr hs2 hb1 hb2 hT u0 m0 m1 m2 m3 a0 HB
  refine (caught_ok (P:=fun w w'=>Tch (fun j=>j=sb∨j=rb) w w'∧FinO rb w.heap.size 0 (M+1) hs v (out M) w') (fun w2 hb=>?_) (fun w2 w3 hz2 hp=>hp.1.blk _ hz2 (fun x=>by rcases x with x|x <;> omega))).mono ?_
  · have hTw:TenIn w2:=hT.below hb
    have hz:=hb.size
    refine whole1_o (kc hb u0) (kc hb m0) (kc hb m1) (kc hb m2) (kc hb m3) (kc hb a0) (LpO w2 rb sb GA nx pf out) (fun w'=>Tch (fun j=>j=sb∨j=rb) w2 w'∧FinO rb w2.heap.size 0 (M+1) hs v (out M) w') M hb1 hb2 lpO_I (fun w' ⟨ht,A,q1,_⟩=>⟨ht,run_sp q1,A.fb,A.fc,(cell_of_row w' rb 3 _ _ _ q1).trans rfl⟩) (HB.out w2 hb) (lpO_stp hGA HS hTw h1 h2) ?_
    rintro w ⟨ht,A,K,hg,hru,ho,hf,hkk⟩
    refine (HE.out rb A hg K w hru).mono ?_
    rintro e w' ⟨rfl,q1,q2⟩
    refine ⟨rfl,ht.trans q2 (fun j hj x=>?_),A,q1,own_keep ho.ow (fun g hg=>q2.blk g (ho.ow.lt g hg).2 (fun x=>?_)),fun e=>(ho.ap rb e).2.1 rfl,ho.nl⟩
    · rcases x with x|x|x
      · exact (hkk j x).elim .inl (fun y=>absurd y (by omega))
      · exact .inr x
      · omega
    · obtain ⟨a1,a2,a3,_⟩:=ho.ap g hg
      rcases x with x|x|x
      · exact a1 x
      · exact a2 x
      · exact a3 x
  · rintro e w' ⟨rfl,w1,⟨ht,hf⟩,rfl⟩
    rw [szA] at hf
    exact ⟨rfl,fin_set hf hr _,(((Tch.refl _ U).alloc _).trans ht (fun _ _ x=>x)).set (.inr (Nat.le_refl _)) _⟩
theorem hc_thr {GA:RA→Prop} {nx:Nat→Nat} {pf:Nat→PF} {out:Nat→List UInt8} {q1 q2 q3:ByteArray} {av:Value} (M:Nat) (hGA:∀ A b1 b2,GA A→GA { A with ba:=b1,bb:=b2 }) (HS:Hid (StpO GA nx pf out M))
    (HE:∀ A,GA A→nx M<A.code.length∧A.fu≤(M:Int)):HCn GA nx pf out q1 q2 q3 av 1 M false 0 36 (out M):=by
  intro rb sb U bb mb ab h1 h2 hr hs2 hb1 hb2 hT u0 m0 m1 m2 m3 a0 HB
  refine (caught_thr (E:=36) (P:=fun w w'=>Tch (fun j=>j=sb∨j=rb) w w'∧FinO rb w.heap.size 1 M false 0 (out M) w') (fun w2 hb=>?_) (fun w2 w3 hz2 hp=>hp.1.blk _ hz2 (fun x=>by rcases x with x|x <;> omega))).mono ?_
  · have hTw:TenIn w2:=hT.below hb
    have hz:=hb.size
    refine whole1_x (kc hb u0) (kc hb m0) (kc hb m1) (kc hb m2) (kc hb m3) (kc hb a0) (LpO w2 rb sb GA nx pf out) (fun w'=>Tch (fun j=>j=sb∨j=rb) w2 w'∧FinO rb w2.heap.size 1 M false 0 (out M) w') M 36 hb1 hb2 lpO_I (HB.out w2 hb) (lpO_stp hGA HS hTw h1 h2) ?_
    rintro w ⟨ht,A,K,hg,hru,ho,hf,hkk⟩
    refine (step_fuel hru (HE A hg).1 (HE A hg).2).mono ?_
    rintro e w' ⟨rfl,q2⟩
    exact ⟨rfl,ht.bel q2,A,(q2.block rb hru.rl).trans hru.hr,own_keep ho.ow (fun g hg=>q2.block g (ho.ow.lt g hg).2),fun e=>(ho.ap rb e).2.1 rfl,ho.nl⟩
  · rintro e w' ⟨rfl,w1,⟨ht,hf⟩,rfl⟩
    rw [szA] at hf
    exact ⟨rfl,fin_set hf hr _,(((Tch.refl _ U).alloc _).trans ht (fun _ _ x=>x)).set (.inr (Nat.le_refl _)) _⟩
theorem run_c {W:World} {ge lb b:Nat} {ps:List Plc} (hw:WAt b ps W) (hi:WI ps) (hg:W.cell? ⟨ge,0,none⟩=some (.pointer (some ⟨lb,0,none⟩))) (hl:W.cell? ⟨lb,0,none⟩=some (.pointer (some ⟨b,0,none⟩)))
    (q1 q2 q3:ByteArray) (hq1:q1.size≤maxLen) (hq2:q2.size≤maxLen) (hq3:q3.size≤maxLen)
    (x:Int) (s:ByteArray) (d er:Int) (hs:s.size≤maxLen) (eP:Hid (∀ w,Calls Tryz.prog 35 #[.string q1] w fun e w'=>e=.returned (.tuple #[.agg #[.int .i64 x,.string s],.int .i64 0])∧Below w.heap.size w w')) (eH:hldR ps x s=(d,er))
    (m1 m2:Int) (e1:casI ps d 4 0 ⟨#[]⟩=0) (e2:crfI 4 false q1 q2 q3=0) (e3:metR ps d false q1 q2 q3=((m1,m2),0)) (e4:ftsB ps 4 (m1,m2)=true) (eR:rckE q1.data.toList q2.data.toList q3.data.toList=0)
    (q:Plc) (hq:plcI ps m1=some q) (m:HM) (hm:methP q m2=some m) (hB:PlcB q) (code:List (Int×Int)) (hmn:m.n=code.length) (hmx:m.xs=flatN code) (hcp:0<code.length) (hlo:0≤m.lo∧m.lo≤40) (hst:0≤m.st∧m.st≤40)
    (vs:List Int) (va:Option Addr) (vc:Nat) (hv:∀ k x,vs[k]?=some x→I32 x∧∃ g,va=some ⟨g,0,none⟩∧W.cell? ⟨g,k,none⟩=some (.int .i64 x)) (hvl:(vs.length:Int)≤m.lo) (hvn:vs.length≤1000)
    (HP:Hid (∀ w,Calls Tryz.prog 18 #[.string q3] w fun e w'=>(∃ a c vo x s,e=.returned (.tuple #[.agg #[.slice a vs.length c,.bool vo,.int .i64 x,.string s],.int .i64 0])∧∀ j,j<vs.length→∃ g,a=some ⟨g,0,none⟩∧w'.cell? ⟨g,j * 2,none⟩=some (.int .i64 0)∧w'.cell? ⟨g,j * 2+1,none⟩=some (.string ⟨#[]⟩))∧Below w.heap.size w w'))
    (hT:TenIn W) (fuel:Int) (nx:Nat→Nat) (pf:Nat→PF) (out:Nat→List UInt8) (hnx:nx 0=0) (hpf:pf 0=⟨[],m.st.toNat,lsI m.lo.toNat vs vs.length⟩) (hout:out 0=[])
    (GA:RA→Prop) (hGA2:∀ he sb fb fc g c,GA ⟨ge,he,sb,fb,fc,.pointer none,.slice none 0 0,fuI fuel,m.nm,m.ds,m.fl,m.lo,m.st,g,c,code,m1,m2⟩)
    (n sp:Nat) (hs2:Bool) (v th:Int) (o:List UInt8) (hol:o.length≤1000000) (HC:Hid (HCn GA nx pf out q1 q2 q3 (.slice va vs.length vc) n sp hs2 v th o)) :
    Calls Tryz.prog 6 #[.pointer (some ⟨ge,0,none⟩),.agg #[.bool false,.string q1,.string q2,.string q3],.slice va vs.length vc,.int .i64 fuel] W fun e w'=>e=.returned (.tuple #[resO th hs2 v sp ⟨o.toArray⟩,.int .i64 0])∧Below W.heap.size W w':=by
  have hlt:=hT.lt
  refine run_eo hg hl q1 q2 q3 va vs.length vc fuel th hs2 v sp ⟨o.toArray⟩ (fun w hb=>?_) (fun w rb he sb hy hr hst2 hn hrW hsW hb=>?_)
  · refine chkMain_e (W:=w) false q1 q2 q3 vs va vc vs.length hvn rfl (fun k x hk=>?_) (fun w2=>by have:=refCheck_any false q1 q2 q3 hq1 hq2 hq3 w2;rw [eR] at this;exact this) HP
    obtain ⟨h1,g,h2,h3⟩:=hv k x hk
    exact ⟨h1,g,h2,kc hb h3⟩
  · have hrl:rb<w.heap.size:=(Array.getElem?_eq_some_iff.1 hr).1
    have hsl:sb<w.heap.size:=hst2.lt rfl
    refine whole_o hrl hsl n sp hs2 v th o hol (fun U bb mb ab hbU hbb u0 y0 y1 y2 y3 a0=>HC.out rb sb U bb mb ab (by omega) (by omega) (by have:=hbU.size;omega) (by have:=hbU.size;omega) (by omega) (by omega) (hT.below (Below.step hb hbU)) u0 y0 y1 y2 y3 a0 (fun w2 hb2'=>?_))
    have hb2:Below w.heap.size w w2:=Below.step hbU hb2'
    have hb3:Below W.heap.size W w2:=Below.step hb hb2
    have hcal:Hid (∀ w3,Below w2.heap.size w2 w3→Calls Tryz.prog 45 #[.pointer (some ⟨b,0,none⟩),.int .i64 d,.int .i64 4,.agg #[.bool false,.string q1,.string q2,.string q3],.agg #[.int .i64 0,.string ⟨#[]⟩]] w3 fun e w'=>e=.returned (.tuple #[.agg #[.int .i64 m1,.int .i64 m2],.int .i64 0])∧Below w3.heap.size w3 w'):=fun w3 hb4=>cal_static (hw.below (Below.step hb3 hb4)) hi d false q1 q2 q3 hq1 hq2 hq3 m1 m2 e1 e2 e3 e4
    have hbg:Hid (∀ w3,Below w2.heap.size w2 w3→Calls Tryz.prog 46 #[.pointer (some ⟨rb,0,none⟩),.agg #[.bool false,.string q1,.string q2,.string q3]] w3 fun e w'=>e=.returned (.int .i64 d)∧Below w3.heap.size w3 w'):=fun w3 hb4=>bgn_e ((hy.below hb2).below hb4) false q1 q2 q3 x s d er (fun w4 _=>eP.out w4) (fun w4 hb5=>by have:=hld_c (hw.below (Below.step (Below.step hb3 hb4) hb5)) x s hs;rw [eH] at this;exact this)
    have hmt:Hid (∀ w3,Below w2.heap.size w2 w3→Calls Tryz.prog 84 #[.pointer (some ⟨b,0,none⟩),.agg #[.int .i64 m1,.int .i64 m2]] w3 fun e w'=>(∃ g c,e=.returned (.tuple #[.agg #[.string m.nm,.string m.ds,.int .i64 m.fl,.int .i64 m.lo,.int .i64 m.st,.slice (some ⟨g,0,none⟩) code.length c],.int .i64 0])∧w'.ownsRow w3.heap.size 28 7 (.slice (some ⟨g,0,none⟩) code.length c) code.length (flatN code))∧Below w3.heap.size w3 w'):=fun w3 hb4=>meth_at (hw.below (Below.step hb3 hb4)) m1 m2 q hq m hm hB code hmn hmx hcp
    refine (begin_e (hy.below hb2) he sb (fuI fuel) ((hb2.block rb hrl).trans hr) (hst2.below hb2) hn false q1 q2 q3 d m1 m2 m.nm m.ds m.fl m.lo m.st code hlo hst hbg hcal hmt vs va vc (fun k x hk=>?_) hvl).mono ?_
    · obtain ⟨_,g,h2,h3⟩:=hv k x hk
      exact ⟨g,h2,kc hb3 h3⟩
    · rintro e w' ⟨rfl,fb,fc,g,c,K,h1,h2,h3,h4⟩
      refine ⟨rfl,h4,_,K,hGA2 he sb fb fc g c,by rw [hnx,hpf];exact h1,⟨by rw [hout];exact World.ownsRow_nil _ _ _ _,.inl rfl,fun g hg=>(by cases hg),fun _=>rfl⟩,h2,h3⟩
def insI (i:Int×Int):Ins:=⟨i.1,i.2,⟨#[]⟩,false,⟨#[]⟩,⟨#[]⟩,⟨#[]⟩⟩
def cdA:List (Int×Int):=[(2,0),(1,1),(7,0),(36,0)]
def clA:Cls:=⟨⟨#[65]⟩,⟨#[79,98,106,101,99,116]⟩,[],1,0,[⟨⟨#[102]⟩,⟨#[40,73,41,73]⟩,9,1,2,cdA.map insI⟩]⟩
theorem wA_cas:casI (wld [clA]) 3 4 0 ⟨#[]⟩=0:=by decide +kernel
theorem wA_crf:crfI 4 false ⟨#[65]⟩ ⟨#[102]⟩ ⟨#[40,73,41,73]⟩=0:=by decide +kernel
theorem wA_met:metR (wld [clA]) 3 false ⟨#[65]⟩ ⟨#[102]⟩ ⟨#[40,73,41,73]⟩=((3,0),0):=by decide +kernel
theorem wA_fts:ftsB (wld [clA]) 4 (3,0)=true:=by decide +kernel
theorem wA_hld:hldR (wld [clA]) 0 ⟨#[65]⟩=(3,0):=by decide +kernel
theorem wA_prf:prfT [65]=(0,[65])∧prfE [65]=0:=by decide +kernel
theorem wA_rck:rckE [65] [102] [40,73,41,73]=0:=by decide +kernel
theorem wA_pd:pdE [40,73,41,73]=0∧pdD [40,73,41,73]=([(0,[])],some (0,[])):=by decide +kernel
def clS (cn ds:ByteArray) (lo st:Int) (cd:List (Int×Int)):Cls:=⟨cn,⟨#[79,98,106,101,99,116]⟩,[],1,0,[⟨⟨#[102]⟩,ds,9,lo,st,cd.map insI⟩]⟩
theorem flatN_I:∀ cd:List (Int×Int),flatI (cd.map insI)=flatN cd
  | []=>rfl
  | i::r=>by rw [List.map_cons,flatI,List.flatMap_cons,flatN];exact congrArg _ (flatN_I r)
theorem clss_lit {w:World} {n1 n2 n3 t1 t2 t3 k:Nat} {cn ds:ByteArray} {lo st:Int} {cd:List (Int×Int)}
    (h1:w.heap[n1]?=some (.cells #[.string cn,.string ⟨#[79,98,106,101,99,116]⟩,.slice none 0 0,.int .i64 1,.int .i64 0,.slice (some ⟨n2,0,none⟩) 1 1] t1 (0,0)))
    (h2:w.heap[n2]?=some (.cells #[.string ⟨#[102]⟩,.string ds,.int .i64 9,.int .i64 lo,.int .i64 st,.slice (some ⟨n3,0,none⟩) k k] t2 (0,0)))
    (h3:w.heap[n3]?=some (.cells (flatN cd).toArray t3 (0,0))) (hk:cd.length=k) (hk2:k≤1000) (ok:ClsW (clS cn ds lo st cd)):IsClss w (.slice (some ⟨n1,0,none⟩) 1 1) [clS cn ds lo st cd]:=by
  have l1:=(Array.getElem?_eq_some_iff.1 h1).1
  have l2:=(Array.getElem?_eq_some_iff.1 h2).1
  have l3:=(Array.getElem?_eq_some_iff.1 h3).1
  have hI:IsInss w (.slice (some ⟨n3,0,none⟩) k k) (cd.map insI):=by
    refine ⟨_,k,by rw [List.length_map,hk],by rw [List.length_map,hk];exact Nat.le_refl _,by unfold maxLen;omega,fun _=>⟨n3,0,rfl,l3,fun j i hi=>?_⟩⟩
    rw [List.getElem?_map] at hi
    cases e:cd[j]? with
    | none=>rw [e] at hi;cases hi
    | some p =>
      rw [e] at hi
      cases hi
      have hz:=fun m (hm:m<7)=>(flatN_at cd j p e m hm)
      have hc:=fun m (hm:m<7)=>(cell_of_row w n3 (j * 7+m) _ _ _ h3).trans ((List.getElem?_toArray ..).trans (hz m hm))
      rw [Nat.zero_add]
      exact ⟨hc 0 (by decide),hc 1 (by decide),hc 2 (by decide),hc 3 (by decide),hc 4 (by decide),hc 5 (by decide),hc 6 (by decide)⟩
  have c2:=fun m=>cell_of_row w n2 m _ _ _ h2
  have c1:=fun m=>cell_of_row w n1 m _ _ _ h1
  refine ⟨_,1,rfl,Nat.le_refl _,by unfold maxLen;omega,fun _=>⟨n1,0,rfl,l1,fun j c hj=>?_⟩⟩
  obtain ⟨rfl,rfl⟩:j=0∧c=clS cn ds lo st cd:=by
    cases j with
    | zero=>simp at hj;exact ⟨rfl,hj.symm⟩
    | succ j=>simp at hj
  refine ⟨.slice none 0 0,.slice (some ⟨n2,0,none⟩) 1 1,fun j u hu=>?_,?_⟩
  · rw [Nat.zero_mul,Nat.zero_add]
    rw [c1 j]
    match j,hu with
    | 0,hu=>exact hu
    | 1,hu=>exact hu
    | 2,hu=>exact hu
    | 3,hu=>exact hu
    | 4,hu=>exact hu
    | 5,hu=>exact hu
    | (j+6),hu=>simp at hu
  · refine ⟨⟨none,0,rfl,Nat.le_refl _,by unfold maxLen;omega,fun h=>absurd rfl h⟩,?_,.inl rfl,.inr ⟨_,_,_,rfl⟩,?_,ok⟩
    · refine ⟨_,1,rfl,Nat.le_refl _,by unfold maxLen;omega,fun _=>⟨n2,0,rfl,l2,fun j m hj=>?_⟩⟩
      obtain ⟨rfl,rfl⟩:j=0∧m=⟨⟨#[102]⟩,ds,9,lo,st,cd.map insI⟩:=by
        cases j with
        | zero=>exact ⟨rfl,by simpa [clS] using hj.symm⟩
        | succ j=>simp [clS] at hj
      exact ⟨c2 0,c2 1,c2 2,c2 3,c2 4,_,c2 5,hI⟩
    · rintro bk o n cap e j hj v hv
      cases e
      have hj0:j=0:=by simp [clS] at hj;exact hj
      subst hj0
      rw [show (0+0 * 6+5:Nat)=5 from rfl,c2 5] at hv
      cases hv
      exact .inr ⟨_,_,_,rfl⟩
theorem wA_w:ClsW clA:=by
  unfold ClsW
  refine ⟨by decide,by decide,fun p hp=>(by simp [clA] at hp),by decide,by decide,fun m hm=>?_⟩
  simp [clA] at hm
  subst hm
  unfold MthW
  refine ⟨by decide,by decide,by decide,by decide,by decide,fun i hi=>?_⟩
  simp [cdA] at hi
  rcases hi with rfl|rfl|rfl|rfl <;> (refine ⟨by decide,?_⟩;simp [InsOK,insI];exact Nat.zero_le _)
theorem wA_plc:(plcI (wld [clA]) 3).map (fun q=>q.c)=some (hcOf clA):=by kernel_rfl
theorem wA_meth:∃ q m,plcI (wld [clA]) 3=some q∧methP q 0=some m∧PlcB q∧m=hmOf ⟨⟨#[102]⟩,⟨#[40,73,41,73]⟩,9,1,2,cdA.map insI⟩:=by
  cases e:plcI (wld [clA]) 3 with
  | none=>have:=wA_plc;rw [e] at this;cases this
  | some q =>
    have h:=wA_plc
    rw [e] at h
    have hq:q.c=hcOf clA:=by simpa using h
    refine ⟨q,hmOf ⟨⟨#[102]⟩,⟨#[40,73,41,73]⟩,9,1,2,cdA.map insI⟩,rfl,by rw [methP,hq];rfl,?_,rfl⟩
    refine (wld_wi [clA] (fun c hc=>by simp at hc;subst hc;exact wA_w)).pb q ?_
    rw [show (3:Int)=((3:Nat):Int) from rfl,plcI_nat] at e
    exact List.mem_of_getElem? e
def bMain:ByteArray:=⟨#[77,97,105,110]⟩
theorem wM_prf:prfT [77,97,105,110]=(0,[77,97,105,110])∧prfE [77,97,105,110]=0:=by decide +kernel
theorem refM (w:World):Calls Tryz.prog 35 #[.string bMain] w fun e w'=>e=.returned (.tuple #[.agg #[.int .i64 0,.string bMain],.int .i64 0])∧Below w.heap.size w w':=by
  have:=parseRef_any bMain (by decide) w
  rw [show bMain.data.toList=[77,97,105,110] from rfl,wM_prf.1,wM_prf.2] at this
  exact this
section
variable {W:World} {ge lb b g c:Nat}
end
end Go.Proofs.YtlohdfpinmdljaaGreatDoor.Sk
