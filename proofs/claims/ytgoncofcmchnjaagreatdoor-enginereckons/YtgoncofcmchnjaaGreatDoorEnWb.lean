import Derived.Test.YtgoncofcmchnjaaGreatDoorEnC
import Derived.Test.YtgoncofcmchnjaaGreatDoorSkH
set_option maxRecDepth 100000
namespace Go.Proofs.YtgoncofcmchnjaaGreatDoor.Sk
open Go.RowKit Go.Maps
structure RA where
  ge:Nat
  he:Nat
  sb:Nat
  fb:Nat
  fc:Nat
  ba:Value
  bb:Value
  fu:Int
  nm:ByteArray
  ds:ByteArray
  fl:Int
  lo:Int
  st:Int
  cb:Nat
  cc:Nat
  code:List (Int×Int)
  ci:Int
  cj:Int
def runC (A:RA) (n:Nat) (sp:Nat) (hs vr:Bool) (vn:Int):Array Value:=#[.pointer (some ⟨A.ge,0,none⟩),.pointer (some ⟨A.he,0,none⟩),.pointer (some ⟨A.sb,0,none⟩),.slice (some ⟨A.fb,0,none⟩) n A.fc,A.ba,A.bb,.int .i64 A.fu,.string ⟨#[]⟩,.int .i64 0,.bool hs,.bool vr,.int .i64 vn,.int .i64 (sp:Int)]
def frmC (A:RA) (nx:Nat):List Value:=[.string A.nm,.string A.ds,.int .i64 A.fl,.int .i64 A.lo,.int .i64 A.st,.slice (some ⟨A.cb,0,none⟩) A.code.length A.cc,.int .i64 A.ci,.int .i64 A.cj,.int .i64 (nx:Int)]
def inC (i:Int×Int):Array Value:=#[.int .i64 i.1,.int .i64 i.2,.string ⟨#[]⟩,.bool false,.string ⟨#[]⟩,.string ⟨#[]⟩,.string ⟨#[]⟩]
structure RuAt (w:World) (K:Nat→Prop) (rb:Nat) (A:RA) (sp nx:Nat) (p:PF):Prop where
  sk:StA w K A.sb [p]
  hr:w.heap[rb]?=some (.cells (runC A 1 sp false false 0) 87 (0,0))
  hf:w.ownsRow 0 148 9 (.slice (some ⟨A.fb,0,none⟩) 1 A.fc) 1 (frmC A nx)
  hc:∀ k i,A.code[k]?=some i→∀ j,j<7→w.cell? ⟨A.cb,k * 7+j,none⟩=(inC i)[j]?
  cl:A.cb<w.heap.size
  nr:¬ K rb
  nf:¬ K A.fb
  nc:¬ K A.cb
  rf:rb≠A.fb
  rc:A.cb≠rb
  fc:A.cb≠A.fb
theorem RuAt.rl {w:World} {K:Nat→Prop} {rb:Nat} {A:RA} {sp nx:Nat} {p:PF} (h:RuAt w K rb A sp nx p):rb<w.heap.size:=(Array.getElem?_eq_some_iff.1 h.hr).1
theorem RuAt.fbl {w:World} {K:Nat→Prop} {rb:Nat} {A:RA} {sp nx:Nat} {p:PF} (h:RuAt w K rb A sp nx p):A.fb<w.heap.size:=(h.hf.lt A.fb rfl).2
theorem RuAt.keep {w w':World} {K K':Nat→Prop} {rb:Nat} {A:RA} {sp nx:Nat} {p q:PF} (h:RuAt w K rb A sp nx p) (s:StA w' K' A.sb [q]) (hk:∀ j,K' j→K j∨w.heap.size≤j) (hz:w.heap.size≤w'.heap.size) (ht:∀ j,j<w.heap.size→¬ K j→w'.heap[j]?=w.heap[j]?):RuAt w' K' rb A sp nx q :=
  { sk:=s
    hr:=(ht rb h.rl h.nr).trans h.hr
    hf:=own_keep h.hf (fun g hg=>by obtain rfl:A.fb=g:=(by simpa [Value.ownBlock] using hg);exact ht _ h.fbl h.nf)
    hc:=fun k i hi j hj=>by
      rw [← h.hc k i hi j hj]
      simp only [World.cell?,ht A.cb h.cl h.nc]
    cl:=Nat.lt_of_lt_of_le h.cl hz
    nr:=fun x=>(hk rb x).elim h.nr (fun y=>by have:=h.rl;omega)
    nf:=fun x=>(hk _ x).elim h.nf (fun y=>by have:=h.fbl;omega)
    nc:=fun x=>(hk _ x).elim h.nc (fun y=>by have:=h.cl;omega)
    rf:=h.rf
    rc:=h.rc
    fc:=h.fc }
theorem RuAt.below {w w':World} {K:Nat→Prop} {rb:Nat} {A:RA} {sp nx:Nat} {p:PF} (h:RuAt w K rb A sp nx p) (hb:Below w.heap.size w w'):RuAt w' K rb A sp nx p :=
  h.keep (h.sk.below hb) (fun _ x=>.inl x) hb.size (fun j hj _=>hb.block j hj)
theorem RuAt.setSp {w:World} {K:Nat→Prop} {rb:Nat} {A:RA} {sp nx:Nat} {p:PF} (h:RuAt w K rb A sp nx p) (sp':Nat):RuAt (w.setCell ⟨rb,12,none⟩ (.int .i64 (sp':Int))) K rb A sp' nx p:=by
  have far:∀ j,j≠rb→(w.setCell ⟨rb,12,none⟩ (.int .i64 (sp':Int))).heap[j]?=w.heap[j]?:=fun j hj=>Below.heap_setCell _ _ _ _ hj
  have hz:(w.setCell ⟨rb,12,none⟩ (.int .i64 (sp':Int))).heap.size=w.heap.size:=by simp [World.setCell]
  exact
  { sk:=h.sk.keep (by omega) (fun j hj hk=>far j (fun e=>h.nr (e ▸ hk)))
    hr:=by rw [Go.Joins.block_setCell h.hr];rfl
    hf:=own_keep h.hf (fun x hx=>by obtain rfl:A.fb=x:=(by simpa [Value.ownBlock] using hx);exact far _ h.rf.symm)
    hc:=fun k i hi j hj=>by
      rw [← h.hc k i hi j hj]
      simp only [World.cell?,far A.cb h.rc]
    cl:=by have:=h.cl;omega
    nr:=h.nr,nf:=h.nf,nc:=h.nc,rf:=h.rf,rc:=h.rc,fc:=h.fc }
theorem RuAt.setNx {w:World} {K:Nat→Prop} {rb:Nat} {A:RA} {sp nx:Nat} {p:PF} (h:RuAt w K rb A sp nx p) (nx':Nat):RuAt (w.setCell ⟨A.fb,8,none⟩ (.int .i64 (nx':Int))) K rb A sp nx' p:=by
  have far:∀ j,j≠A.fb→(w.setCell ⟨A.fb,8,none⟩ (.int .i64 (nx':Int))).heap[j]?=w.heap[j]?:=fun j hj=>Below.heap_setCell _ _ _ _ hj
  have hz:(w.setCell ⟨A.fb,8,none⟩ (.int .i64 (nx':Int))).heap.size=w.heap.size:=by simp [World.setCell]
  exact
  { sk:=h.sk.keep (by omega) (fun j hj hk=>far j (fun e=>h.nf (e ▸ hk)))
    hr:=(far rb h.rf).trans h.hr
    hf:=(h.hf.stored 8 (.int .i64 (nx':Int))).1
    hc:=fun k i hi j hj=>by
      rw [← h.hc k i hi j hj]
      simp only [World.cell?,far A.cb h.fc]
    cl:=by have:=h.cl;omega
    nr:=h.nr,nf:=h.nf,nc:=h.nc,rf:=h.rf,rc:=h.rc,fc:=h.fc }
theorem RuAt.c {w:World} {K:Nat→Prop} {rb:Nat} {A:RA} {sp nx:Nat} {p:PF} (h:RuAt w K rb A sp nx p):w.cell? ⟨rb,0,none⟩=some (.pointer (some ⟨A.ge,0,none⟩))∧w.cell? ⟨rb,2,none⟩=some (.pointer (some ⟨A.sb,0,none⟩))∧w.cell? ⟨rb,3,none⟩=some (.slice (some ⟨A.fb,0,none⟩) 1 A.fc)∧w.cell? ⟨rb,6,none⟩=some (.int .i64 A.fu)∧w.cell? ⟨rb,12,none⟩=some (.int .i64 (sp:Int))∧(∀ k,w.frozen? ⟨rb,k,none⟩=false) :=
  ⟨(cell_of_row w rb 0 _ _ _ h.hr).trans rfl,(cell_of_row w rb 2 _ _ _ h.hr).trans rfl,(cell_of_row w rb 3 _ _ _ h.hr).trans rfl,(cell_of_row w rb 6 _ _ _ h.hr).trans rfl,(cell_of_row w rb 12 _ _ _ h.hr).trans rfl,fun k=>frozen_of_row w rb k _ _ h.hr⟩
theorem RuAt.f {w:World} {K:Nat→Prop} {rb:Nat} {A:RA} {sp nx:Nat} {p:PF} (h:RuAt w K rb A sp nx p):w.cell? ⟨A.fb,1,none⟩=some (.string A.ds)∧w.cell? ⟨A.fb,5,none⟩=some (.slice (some ⟨A.cb,0,none⟩) A.code.length A.cc)∧w.cell? ⟨A.fb,8,none⟩=some (.int .i64 (nx:Int))∧(∀ k,w.frozen? ⟨A.fb,k,none⟩=false) :=
  ⟨(h.hf.cellAt 1 (by decide)).trans rfl,(h.hf.cellAt 5 (by decide)).trans rfl,(h.hf.cellAt 8 (by decide)).trans rfl,fun k=>h.hf.frozenAt k⟩
theorem top_e {W:World} {rb fb fc:Nat} (h:W.cell? ⟨rb,3,none⟩=some (.slice (some ⟨fb,0,none⟩) 1 fc)):Calls Tryz.prog 47 #[.pointer (some ⟨rb,0,none⟩)] W fun e w'=>e=.returned (.pointer (some ⟨fb,0,none⟩))∧w'=W.drew:=by
  go_enter Tryz.func47,Tryz.ntmps47
  go_upto_region 1 with fail
  all_goals go_region
  all_goals go_wp2
  all_goals go_ret
  all_goals exact ⟨rfl,rfl⟩
def inV (i:Int×Int):Value:=.agg #[.int .i64 i.1,.int .i64 i.2,.string ⟨#[]⟩,.bool false,.string ⟨#[]⟩,.string ⟨#[]⟩,.string ⟨#[]⟩]
set_option maxHeartbeats 8000000 in
theorem step_e {W:World} {K:Nat→Prop} {rb:Nat} {A:RA} {sp nx:Nat} {p:PF} (h:RuAt W K rb A sp nx p) (op n:Int) (hi:A.code[nx]?=some (op,n)) (hz:A.code.length≤1000) (hsp:(sp:Int)<A.fu) (hfu:A.fu≤100000) (E:Ending) (hE:E=.returned (.tuple #[])∨∃ x,E=thr x) (Q:World→Prop)
    (HD:∀ w,RuAt w K rb A (sp+1) (nx+1) p→Tch (fun j=>j=rb∨j=A.fb) W w→Calls Tryz.prog 49 #[.pointer (some ⟨rb,0,none⟩),inV (op,n)] w fun e w'=>e=E∧Q w') :
    Calls Tryz.prog 25 #[.pointer (some ⟨rb,0,none⟩)] W fun e w'=>e=E∧Q w':=by
  obtain ⟨c0,c2,c3,c6,c12,rz⟩:=h.c
  obtain ⟨f1,f5,f8,fz⟩:=h.f
  have hl:=(List.getElem?_eq_some_iff.1 hi).1
  have H0:Hid (RuAt W K rb A sp nx p):=h
  have hrl:=h.rl
  have hfl:=h.fbl
  have hcl:=h.cl
  have hrf:=h.rf
  have hrc:=h.rc
  have hfc:=h.fc
  obtain ⟨L,hL⟩:∃ L,A.code.length=L:=⟨_,rfl⟩
  obtain ⟨fb,hfb⟩:∃ fb,A.fb=fb:=⟨_,rfl⟩
  obtain ⟨cb,hcb⟩:∃ cb,A.cb=cb:=⟨_,rfl⟩
  obtain ⟨cc,hcc⟩:∃ cc,A.cc=cc:=⟨_,rfl⟩
  obtain ⟨fu,hfu2⟩:∃ fu,A.fu=fu:=⟨_,rfl⟩
  have HA:Hid (A.fb=fb∧A.cb=cb∧A.code.length=L∧A.cc=cc):=⟨hfb,hcb,hL,hcc⟩
  have HI:Hid (A.code[nx]?=some (op,n)):=hi
  rw [hL] at hl hz f5
  rw [hfb] at f1 f5 f8 fz hfl hrf hfc c3
  rw [hcb] at f5 hcl hrc hfc
  rw [hcc] at f5
  rw [hfu2] at hsp hfu c6
  have HT:Hid (∀ w,Below W.heap.size W w→Calls Tryz.prog 47 #[.pointer (some ⟨rb,0,none⟩)] w fun e w'=>e=.returned (.pointer (some ⟨fb,0,none⟩))∧w'=w.drew):=fun w hb=>top_e ((hb.cell (p:=⟨rb,3,none⟩) hrl).trans c3)
  have HN:Hid (∀ x w,Calls Tryz.prog 48 #[.bool false,.int .i64 x] w fun e w'=>e=.returned (.tuple #[])∧w'=w):=fun x w=>tif_no x w
  have HDD:Hid (∀ w,RuAt w K rb A (sp+1) (nx+1) p→Tch (fun j=>j=rb∨j=fb) W w→Calls Tryz.prog 49 #[.pointer (some ⟨rb,0,none⟩),.agg #[.int .i64 op,.int .i64 n,.string ⟨#[]⟩,.bool false,.string ⟨#[]⟩,.string ⟨#[]⟩,.string ⟨#[]⟩]] w fun e w'=>e=E∧Q w'):=fun w h1 h2=>HD w h1 (by rw [hfb];exact h2)
  have hle:¬ L≤nx:=by omega
  have hle2:decide (L≤nx)=false:=by simpa using hle
  have hge:¬ fu≤(sp:Int):=by omega
  have hge2:decide (fu≤(sp:Int))=false:=by simpa using hge
  clear h hi HD hL hfb hcb hcc hfu2
  go_enter Tryz.func25,Tryz.ntmps25
  go_upto_region 1 with (go_at_call 47;refine (HT.out _ (by repeat (first|exact Below.refl _ _|refine Below.setCell ?_ (by simp;try omega) _|refine Below.alloc ?_ (by simp;try omega) _|refine Below.drew ?_))).mono ?_;rintro e w1 ⟨rfl,hw⟩;obtain rfl:=hw.symm)
  go_cut [] (fun wx=>Hid (wx=W.drew.drew))
  case first =>
    go_region_with (go_at_call 48;refine (HN.out _ _).mono ?_;rintro e w1 ⟨rfl,hw⟩;obtain rfl:=hw.symm)
    all_goals (go_wp2_with fail)
    all_goals go_meet
    all_goals exact rfl
  case rest =>
    have hcut2:=hcut.out
    clear hcut
    subst hcut2
    go_upto_region 2 with fail
    go_cut [] (fun wx=>Hid (wx=W.drew.drew.drew))
    case first =>
      go_region_with (go_at_call 48;refine (HN.out _ _).mono ?_;rintro e w1 ⟨rfl,hw⟩;obtain rfl:=hw.symm)
      all_goals (go_wp2_with fail)
      all_goals go_meet
      all_goals exact rfl
    case rest =>
      have hcut2:=hcut.out
      clear hcut
      subst hcut2
      go_upto_region 4 with fail
      obtain ⟨V,hV⟩:∃ V,V=(W.setCell ⟨rb,12,none⟩ (.int .i64 ((sp:Int)+1))).drew.drew.drew:=⟨_,rfl⟩
      have e1:(sp:Int)+1=((sp+1:Nat):Int):=by omega
      have RV:RuAt V K rb A (sp+1) nx p:=by
        rw [hV,e1]
        exact (H0.out.setSp (sp+1)).below ((Below.refl _ _).drew.drew.drew)
      have TV:Hid (Tch (fun j=>j=rb∨j=fb) W V):=by
        rw [hV]
        exact (((Tch.refl _ W).set (.inl (.inl rfl)) _).drew.drew).drew
      have zV:V.heap.size=W.heap.size:=by rw [hV];simp
      rw [← hV]
      obtain ⟨g1,g5,g8,gz⟩:=RV.f
      obtain ⟨i0,i1,i2,i3,i4,i5,i6⟩:V.cell? ⟨A.cb,nx * 7,none⟩=some (.int .i64 op)∧V.cell? ⟨A.cb,nx * 7+1,none⟩=some (.int .i64 n)∧V.cell? ⟨A.cb,nx * 7+2,none⟩=some (.string ⟨#[]⟩)∧V.cell? ⟨A.cb,nx * 7+3,none⟩=some (.bool false)∧V.cell? ⟨A.cb,nx * 7+4,none⟩=some (.string ⟨#[]⟩)∧V.cell? ⟨A.cb,nx * 7+5,none⟩=some (.string ⟨#[]⟩)∧V.cell? ⟨A.cb,nx * 7+6,none⟩=some (.string ⟨#[]⟩) :=
        ⟨(RV.hc nx _ HI.out 0 (by decide)).trans rfl,(RV.hc nx _ HI.out 1 (by decide)).trans rfl,(RV.hc nx _ HI.out 2 (by decide)).trans rfl,(RV.hc nx _ HI.out 3 (by decide)).trans rfl,(RV.hc nx _ HI.out 4 (by decide)).trans rfl,(RV.hc nx _ HI.out 5 (by decide)).trans rfl,(RV.hc nx _ HI.out 6 (by decide)).trans rfl⟩
      rw [HA.out.1] at g5 g8 gz
      rw [HA.out.2.1,HA.out.2.2.1,HA.out.2.2.2] at g5
      rw [HA.out.2.1] at i0 i1 i2 i3 i4 i5 i6
      have HRV:Hid (RuAt V K rb A (sp+1) nx p):=RV
      have h0:(0:Int)≤(nx:Int):=by omega
      have h1:(nx:Int)<(L:Int):=by omega
      have nb:¬ rb=V.heap.size:=by omega
      have nf:¬ fb=V.heap.size:=by omega
      have nc:¬ cb=V.heap.size:=by omega
      clear RV hV e1
      go_cut [3] (fun s3 wx=>Hid (s3=.pointer (some ⟨V.heap.size,0,none⟩)∧wx.heap[V.heap.size]?=some (.cells (inC (op,n)) 28 (0,0))∧Below V.heap.size V wx))
      case first =>
        go_region
        all_goals (go_wp2_with fail)
        all_goals go_meet
        all_goals exact ⟨by rw [zV],halloc1 _ _,((Below.refl _ _).alloc (Nat.le_refl _) _).drew⟩
      case rest =>
        obtain ⟨rfl,hb3,hbel⟩:=hcut.out
        clear hcut
        have RC:=HRV.out.below hbel
        have HRC:Hid (RuAt wc K rb A (sp+1) nx p):=RC
        have TC:Hid (Tch (fun j=>j=rb∨j=fb) W wc):=TV.out.bel hbel
        rw [zV] at hb3
        obtain ⟨m1,m5,m8,mz⟩:=RC.f
        rw [HA.out.1] at m8 mz
        have k0:wc.cell? ⟨W.heap.size,0,none⟩=some (.int .i64 op):=(cell_of_row wc _ 0 _ _ _ hb3).trans rfl
        have k1:wc.cell? ⟨W.heap.size,1,none⟩=some (.int .i64 n):=(cell_of_row wc _ 1 _ _ _ hb3).trans rfl
        have k2:wc.cell? ⟨W.heap.size,2,none⟩=some (.string ⟨#[]⟩):=(cell_of_row wc _ 2 _ _ _ hb3).trans rfl
        have k3:wc.cell? ⟨W.heap.size,3,none⟩=some (.bool false):=(cell_of_row wc _ 3 _ _ _ hb3).trans rfl
        have k4:wc.cell? ⟨W.heap.size,4,none⟩=some (.string ⟨#[]⟩):=(cell_of_row wc _ 4 _ _ _ hb3).trans rfl
        have k5:wc.cell? ⟨W.heap.size,5,none⟩=some (.string ⟨#[]⟩):=(cell_of_row wc _ 5 _ _ _ hb3).trans rfl
        have k6:wc.cell? ⟨W.heap.size,6,none⟩=some (.string ⟨#[]⟩):=(cell_of_row wc _ 6 _ _ _ hb3).trans rfl
        have nf2:¬ W.heap.size=fb:=by omega
        have e1:(nx:Int)+1=((nx+1:Nat):Int):=by omega
        have HX:Hid (Calls Tryz.prog 49 #[.pointer (some ⟨rb,0,none⟩),.agg #[.int .i64 op,.int .i64 n,.string ⟨#[]⟩,.bool false,.string ⟨#[]⟩,.string ⟨#[]⟩,.string ⟨#[]⟩]] (wc.setCell ⟨fb,8,none⟩ (.int .i64 ((nx:Int)+1))) fun e w'=>e=E∧Q w'):=HDD.out _ (by rw [e1,← HA.out.1];exact HRC.out.setNx (nx+1)) (TC.out.set (.inl (.inr rfl)) _)
        clear hb3 hbel RC m1 m5 e1 i0 i1 i2 i3 i4 i5 i6 g1 g5 g8 gz HDD HT HN
        rcases hE with rfl|⟨x,rfl⟩
        · go_wp2_with (go_at_call 49;refine HX.out.mono ?_;rintro e w9 ⟨rfl,hq⟩)
          exact bodyPost_end (results_none rfl _ _ _) rfl ⟨rfl,hq⟩
        · go_wp2_with (go_at_call 49;refine HX.out.mono ?_;rintro e w9 ⟨he,hq⟩;rw [thr] at he;subst he)
          exact ⟨rfl,rfl,hq⟩
set_option maxHeartbeats 1000000 in
theorem do_load {W:World} {rb:Nat} {n:Int} {Q:World→Prop} (HL:Hid (∀ w,Below W.heap.size W w→Calls Tryz.prog 89 #[.pointer (some ⟨rb,0,none⟩),.agg #[.int .i64 2,.int .i64 n,.string ⟨#[]⟩,.bool false,.string ⟨#[]⟩,.string ⟨#[]⟩,.string ⟨#[]⟩]] w fun e w'=>e=.returned (.tuple #[])∧Q w')):Calls Tryz.prog 49 #[.pointer (some ⟨rb,0,none⟩),inV (2,n)] W fun e w'=>e=.returned (.tuple #[])∧Q w':=by
  unfold inV
  go_enter Tryz.func49,Tryz.ntmps49
  go_wp2_with (go_at_call 89;refine (HL.out _ (by repeat (first|exact Below.refl _ _|refine Below.setCell ?_ (by simp;try omega) _|refine Below.alloc ?_ (by simp;try omega) _|refine Below.drew ?_))).mono ?_;rintro e w1 ⟨rfl,hq⟩)
  exact bodyPost_end (results_none rfl _ _ _) rfl ⟨rfl,hq⟩
set_option maxHeartbeats 1000000 in
theorem do_iconst {W:World} {rb:Nat} {n:Int} {Q:World→Prop} (HL:Hid (∀ w,Below W.heap.size W w→Calls Tryz.prog 87 #[.pointer (some ⟨rb,0,none⟩),.int .i64 n] w fun e w'=>e=.returned (.tuple #[])∧Q w')):Calls Tryz.prog 49 #[.pointer (some ⟨rb,0,none⟩),inV (1,n)] W fun e w'=>e=.returned (.tuple #[])∧Q w':=by
  unfold inV
  go_enter Tryz.func49,Tryz.ntmps49
  go_wp2_with (go_at_call 87;refine (HL.out _ (by repeat (first|exact Below.refl _ _|refine Below.setCell ?_ (by simp;try omega) _|refine Below.alloc ?_ (by simp;try omega) _|refine Below.drew ?_))).mono ?_;rintro e w1 ⟨rfl,hq⟩)
  exact bodyPost_end (results_none rfl _ _ _) rfl ⟨rfl,hq⟩
set_option maxHeartbeats 1000000 in
theorem do_comp {W:World} {rb:Nat} {op n:Int} (ho:op=7∨op=8∨op=9∨op=10) {Q:World→Prop} (HL:Hid (∀ w,Below W.heap.size W w→Calls Tryz.prog 91 #[.pointer (some ⟨rb,0,none⟩),.int .i64 op] w fun e w'=>e=.returned (.tuple #[])∧Q w')):Calls Tryz.prog 49 #[.pointer (some ⟨rb,0,none⟩),inV (op,n)] W fun e w'=>e=.returned (.tuple #[])∧Q w':=by
  unfold inV
  rcases ho with rfl|rfl|rfl|rfl
  all_goals
    go_enter Tryz.func49,Tryz.ntmps49
    go_wp2_with (go_at_call 91;refine (HL.out _ (by repeat (first|exact Below.refl _ _|refine Below.setCell ?_ (by simp;try omega) _|refine Below.alloc ?_ (by simp;try omega) _|refine Below.drew ?_))).mono ?_;rintro e w1 ⟨rfl,hq⟩)
    exact bodyPost_end (results_none rfl _ _ _) rfl ⟨rfl,hq⟩
set_option maxHeartbeats 1000000 in
theorem do_comp0 {W:World} {rb:Nat} {n E:Int} {Q:World→Prop} (HL:Hid (∀ w,Below W.heap.size W w→Calls Tryz.prog 91 #[.pointer (some ⟨rb,0,none⟩),.int .i64 10] w fun e w'=>e=thr E∧Q w')):Calls Tryz.prog 49 #[.pointer (some ⟨rb,0,none⟩),inV (10,n)] W fun e w'=>e=thr E∧Q w':=by
  unfold inV
  go_enter Tryz.func49,Tryz.ntmps49
  go_wp2_with (go_at_call 91;refine (HL.out _ (by repeat (first|exact Below.refl _ _|refine Below.setCell ?_ (by simp;try omega) _|refine Below.alloc ?_ (by simp;try omega) _|refine Below.drew ?_))).mono ?_;rintro e w1 ⟨he,hq⟩;rw [thr] at he;subst he)
  exact ⟨rfl,rfl,hq⟩
set_option maxHeartbeats 1000000 in
theorem do_ireturn {W:World} {rb:Nat} {n:Int} {Q:World→Prop} (HL:Hid (∀ w,Below W.heap.size W w→Calls Tryz.prog 105 #[.pointer (some ⟨rb,0,none⟩)] w fun e w'=>e=.returned (.tuple #[])∧Q w')):Calls Tryz.prog 49 #[.pointer (some ⟨rb,0,none⟩),inV (36,n)] W fun e w'=>e=.returned (.tuple #[])∧Q w':=by
  unfold inV
  go_enter Tryz.func49,Tryz.ntmps49
  go_wp2_with (go_at_call 105;refine (HL.out _ (by repeat (first|exact Below.refl _ _|refine Below.setCell ?_ (by simp;try omega) _|refine Below.alloc ?_ (by simp;try omega) _|refine Below.drew ?_))).mono ?_;rintro e w1 ⟨rfl,hq⟩)
  exact bodyPost_end (results_none rfl _ _ _) rfl ⟨rfl,hq⟩
set_option maxHeartbeats 1000000 in
theorem one_w {Q:World→Value→Prop} {P:World→Nat→Prop} {W:World} {n3 t3:Nat} {A:Array Value} {ds:ByteArray} (HC:Hid (W.heap[n3]?=some (.cells A t3 (0,0))))
    (HQ:Hid (∀ (w:World) (n1 n2 n3 t1 t2 t3:Nat),w.heap[n1]?=some (.cells #[.string ⟨#[77,97,105,110]⟩,.string ⟨#[79,98,106,101,99,116]⟩,.slice none 0 0,.int .i64 1,.int .i64 0,.slice (some ⟨n2,0,none⟩) 1 1] t1 (0,0))→w.heap[n2]?=some (.cells #[.string ⟨#[102]⟩,.string ds,.int .i64 9,.int .i64 4,.int .i64 6,.slice (some ⟨n3,0,none⟩) 4 4] t2 (0,0))→w.heap[n3]?=some (.cells A t3 (0,0))→Q w (.slice (some ⟨n1,0,none⟩) 1 1)))
    (HSt:Hid (∀ w v,Q w v→Calls Tryz.prog 7 #[v,.int .i64 1] w fun e w'=>∃ b ge,e=.returned (.tuple #[.pointer (some ⟨b,0,none⟩),.pointer (some ⟨ge,0,none⟩),.int .i64 0])∧Below w.heap.size w w'∧P w' ge)) :
    Calls Tryz.prog 5 #[.string ds,.slice (some ⟨n3,0,none⟩) 4 4] W fun e w'=>∃ ge,e=.returned (.pointer (some ⟨ge,0,none⟩))∧Below W.heap.size W w'∧P w' ge:=by
  go_enter Tryz.func5,Tryz.ntmps5
  go_wp2_with (go_at_call 7;refine (HSt.out _ _ (HQ.out _ (W.heap.size+2) W.heap.size n3 _ _ _ (haA _ _ (by simp)) (hkA (hkA (haA W _ rfl))) (hkA (hkA (hkA HC.out))))).mono ?_;rintro e w1 ⟨b,ge,rfl,hb,hp⟩;have B1:Hid (Below W.heap.size W w1):=Below.step (by repeat (first|exact Below.refl _ _|refine Below.setCell ?_ (by simp;try omega) _|refine Below.alloc ?_ (by simp;try omega) _|refine Below.drew ?_)) hb;have HX:Hid (P w1 ge):=hp;clear hb hp HSt)
  go_ret
  exact ⟨ge,rfl,B1.out,HX.out⟩
theorem w32_b (z:Int):-2147483648≤wrap32 z∧wrap32 z≤2147483647:=by unfold wrap32;omega
set_option maxHeartbeats 2000000 in
theorem rk_7 {a b:Int} {W:World} (ha:-2147483648≤a∧a≤2147483647) (hb:-2147483648≤b∧b≤2147483647) {P:World→Nat→Prop} (HA:Hid (∀ w,Calls Tryz.prog 4 #[] w fun e w'=>e=.returned (.bool true)∧Below w.heap.size w w'))
    (H1:Hid (∀ w n3 t3,w.heap[n3]?=some (.cells #[.int .i64 2,.int .i64 0,.string ⟨#[]⟩,.bool false,.string ⟨#[]⟩,.string ⟨#[]⟩,.string ⟨#[]⟩,.int .i64 2,.int .i64 1,.string ⟨#[]⟩,.bool false,.string ⟨#[]⟩,.string ⟨#[]⟩,.string ⟨#[]⟩,.int .i64 7,.int .i64 0,.string ⟨#[]⟩,.bool false,.string ⟨#[]⟩,.string ⟨#[]⟩,.string ⟨#[]⟩,.int .i64 36,.int .i64 0,.string ⟨#[]⟩,.bool false,.string ⟨#[]⟩,.string ⟨#[]⟩,.string ⟨#[]⟩] t3 (0,0))→Calls Tryz.prog 5 #[.string ⟨#[40,73,73,41,73]⟩,.slice (some ⟨n3,0,none⟩) 4 4] w fun e w'=>∃ ge,e=.returned (.pointer (some ⟨ge,0,none⟩))∧Below w.heap.size w w'∧P w' ge))
    (HR:Hid (∀ w w2 ge g,P w ge→Below w.heap.size w w2→w2.cell? ⟨g,0,none⟩=some (.int .i64 a)→w2.cell? ⟨g,1,none⟩=some (.int .i64 b)→Calls Tryz.prog 6 #[.pointer (some ⟨ge,0,none⟩),.agg #[.bool false,.string ⟨#[77,97,105,110]⟩,.string ⟨#[102]⟩,.string ⟨#[40,73,73,41,73]⟩],.slice (some ⟨g,0,none⟩) 2 2,.int .i64 9] w2 fun e w'=>e=.returned (.tuple #[.agg #[.string ⟨#[]⟩,.int .i64 0,.bool true,.bool false,.int .i64 (wrap32 (a+b)),.int .i64 4],.int .i64 0])∧Below w2.heap.size w2 w')) :
    Calls Tryz.prog 3 #[.int .i32 a,.int .i32 b,.int .i64 7] W fun e w'=>e=.returned (.bool true)∧Below W.heap.size W w':=by
  have c1:∀ w:World,(convert 21 3 (.int .i32 a)).run Tryz.prog w=.ok (.int .i64 a) w:=fun w=>by
    simp [convert,run_underlying Tryz.underlying3,run_underlying Tryz.underlying21,go_sem]
    rw [IntKind.wrap_i64];obtain ⟨z1,z2⟩:=ha;omega
  have c2:∀ w:World,(convert 21 3 (.int .i32 b)).run Tryz.prog w=.ok (.int .i64 b) w:=fun w=>by
    simp [convert,run_underlying Tryz.underlying3,run_underlying Tryz.underlying21,go_sem]
    rw [IntKind.wrap_i64];obtain ⟨z1,z2⟩:=hb;omega
  have d7:∀ w:World,(convert 21 3 (.int .i32 (wrap32 (a+b)))).run Tryz.prog w=.ok (.int .i64 (wrap32 (a+b))) w:=fun w=>by
    simp [convert,run_underlying Tryz.underlying3,run_underlying Tryz.underlying21,go_sem]
    rw [IntKind.wrap_i64];obtain ⟨z1,z2⟩:=w32_b (a+b);omega
  go_enter Tryz.func3,Tryz.ntmps3
  go_wp2_with (first
    | (go_at_call 4;refine (HA.out _).mono ?_;rintro e w1 ⟨rfl,hb⟩;have B1:Hid (Below W.heap.size W w1):=hb;clear hb HA)
    | (go_at_call 5;refine (H1.out _ w1.heap.size _ (halloc1 w1 _)).mono ?_;rintro e w2 ⟨ge,rfl,hb,hp⟩;have B2:Hid (Below W.heap.size W w2):=Below.step (B1.out.alloc B1.out.size _) hb;have HP:Hid (P w2 ge):=hp;clear hb hp H1)
    | (go_at_call 6;refine (HR.out w2 _ ge w2.heap.size HP.out ((Below.refl _ _).alloc (Nat.le_refl _) _) (by first|exact (cell_of_row _ _ 0 _ _ _ (halloc1 _ _)).trans rfl|simp) (by first|exact (cell_of_row _ _ 1 _ _ _ (halloc1 _ _)).trans rfl|simp)).mono ?_;rintro e w3 ⟨rfl,hb⟩;have B3:Hid (Below W.heap.size W w3):=Below.step (B2.out.alloc B2.out.size _) hb;clear hb HR))
  go_ret
  exact ⟨rfl,B3.out.alloc B3.out.size _⟩
set_option maxHeartbeats 2000000 in
theorem rk_8 {a b:Int} {W:World} (ha:-2147483648≤a∧a≤2147483647) (hb:-2147483648≤b∧b≤2147483647) {P:World→Nat→Prop} (HA:Hid (∀ w,Calls Tryz.prog 4 #[] w fun e w'=>e=.returned (.bool true)∧Below w.heap.size w w'))
    (H1:Hid (∀ w n3 t3,w.heap[n3]?=some (.cells #[.int .i64 2,.int .i64 0,.string ⟨#[]⟩,.bool false,.string ⟨#[]⟩,.string ⟨#[]⟩,.string ⟨#[]⟩,.int .i64 2,.int .i64 1,.string ⟨#[]⟩,.bool false,.string ⟨#[]⟩,.string ⟨#[]⟩,.string ⟨#[]⟩,.int .i64 8,.int .i64 0,.string ⟨#[]⟩,.bool false,.string ⟨#[]⟩,.string ⟨#[]⟩,.string ⟨#[]⟩,.int .i64 36,.int .i64 0,.string ⟨#[]⟩,.bool false,.string ⟨#[]⟩,.string ⟨#[]⟩,.string ⟨#[]⟩] t3 (0,0))→Calls Tryz.prog 5 #[.string ⟨#[40,73,73,41,73]⟩,.slice (some ⟨n3,0,none⟩) 4 4] w fun e w'=>∃ ge,e=.returned (.pointer (some ⟨ge,0,none⟩))∧Below w.heap.size w w'∧P w' ge))
    (HR:Hid (∀ w w2 ge g,P w ge→Below w.heap.size w w2→w2.cell? ⟨g,0,none⟩=some (.int .i64 a)→w2.cell? ⟨g,1,none⟩=some (.int .i64 b)→Calls Tryz.prog 6 #[.pointer (some ⟨ge,0,none⟩),.agg #[.bool false,.string ⟨#[77,97,105,110]⟩,.string ⟨#[102]⟩,.string ⟨#[40,73,73,41,73]⟩],.slice (some ⟨g,0,none⟩) 2 2,.int .i64 9] w2 fun e w'=>e=.returned (.tuple #[.agg #[.string ⟨#[]⟩,.int .i64 0,.bool true,.bool false,.int .i64 (wrap32 (a - b)),.int .i64 4],.int .i64 0])∧Below w2.heap.size w2 w')) :
    Calls Tryz.prog 3 #[.int .i32 a,.int .i32 b,.int .i64 8] W fun e w'=>e=.returned (.bool true)∧Below W.heap.size W w':=by
  have c1:∀ w:World,(convert 21 3 (.int .i32 a)).run Tryz.prog w=.ok (.int .i64 a) w:=fun w=>by
    simp [convert,run_underlying Tryz.underlying3,run_underlying Tryz.underlying21,go_sem]
    rw [IntKind.wrap_i64];obtain ⟨z1,z2⟩:=ha;omega
  have c2:∀ w:World,(convert 21 3 (.int .i32 b)).run Tryz.prog w=.ok (.int .i64 b) w:=fun w=>by
    simp [convert,run_underlying Tryz.underlying3,run_underlying Tryz.underlying21,go_sem]
    rw [IntKind.wrap_i64];obtain ⟨z1,z2⟩:=hb;omega
  have d7:∀ w:World,(convert 21 3 (.int .i32 (wrap32 (a+b)))).run Tryz.prog w=.ok (.int .i64 (wrap32 (a+b))) w:=fun w=>by
    simp [convert,run_underlying Tryz.underlying3,run_underlying Tryz.underlying21,go_sem]
    rw [IntKind.wrap_i64];obtain ⟨z1,z2⟩:=w32_b (a+b);omega
  have d8:∀ w:World,(convert 21 3 (.int .i32 (wrap32 (a - b)))).run Tryz.prog w=.ok (.int .i64 (wrap32 (a - b))) w:=fun w=>by
    simp [convert,run_underlying Tryz.underlying3,run_underlying Tryz.underlying21,go_sem]
    rw [IntKind.wrap_i64];obtain ⟨z1,z2⟩:=w32_b (a - b);omega
  go_enter Tryz.func3,Tryz.ntmps3
  go_wp2_with (first
    | (go_at_call 4;refine (HA.out _).mono ?_;rintro e w1 ⟨rfl,hb⟩;have B1:Hid (Below W.heap.size W w1):=hb;clear hb HA)
    | (go_at_call 5;refine (H1.out _ w1.heap.size _ (halloc1 w1 _)).mono ?_;rintro e w2 ⟨ge,rfl,hb,hp⟩;have B2:Hid (Below W.heap.size W w2):=Below.step (B1.out.alloc B1.out.size _) hb;have HP:Hid (P w2 ge):=hp;clear hb hp H1)
    | (go_at_call 6;refine (HR.out w2 _ ge w2.heap.size HP.out ((Below.refl _ _).alloc (Nat.le_refl _) _) (by first|exact (cell_of_row _ _ 0 _ _ _ (halloc1 _ _)).trans rfl|simp) (by first|exact (cell_of_row _ _ 1 _ _ _ (halloc1 _ _)).trans rfl|simp)).mono ?_;rintro e w3 ⟨rfl,hb⟩;have B3:Hid (Below W.heap.size W w3):=Below.step (B2.out.alloc B2.out.size _) hb;clear hb HR))
  go_ret
  exact ⟨rfl,B3.out.alloc B3.out.size _⟩
set_option maxHeartbeats 2000000 in
theorem rk_9 {a b:Int} {W:World} (ha:-2147483648≤a∧a≤2147483647) (hb:-2147483648≤b∧b≤2147483647) {P:World→Nat→Prop} (HA:Hid (∀ w,Calls Tryz.prog 4 #[] w fun e w'=>e=.returned (.bool true)∧Below w.heap.size w w'))
    (H1:Hid (∀ w n3 t3,w.heap[n3]?=some (.cells #[.int .i64 2,.int .i64 0,.string ⟨#[]⟩,.bool false,.string ⟨#[]⟩,.string ⟨#[]⟩,.string ⟨#[]⟩,.int .i64 2,.int .i64 1,.string ⟨#[]⟩,.bool false,.string ⟨#[]⟩,.string ⟨#[]⟩,.string ⟨#[]⟩,.int .i64 9,.int .i64 0,.string ⟨#[]⟩,.bool false,.string ⟨#[]⟩,.string ⟨#[]⟩,.string ⟨#[]⟩,.int .i64 36,.int .i64 0,.string ⟨#[]⟩,.bool false,.string ⟨#[]⟩,.string ⟨#[]⟩,.string ⟨#[]⟩] t3 (0,0))→Calls Tryz.prog 5 #[.string ⟨#[40,73,73,41,73]⟩,.slice (some ⟨n3,0,none⟩) 4 4] w fun e w'=>∃ ge,e=.returned (.pointer (some ⟨ge,0,none⟩))∧Below w.heap.size w w'∧P w' ge))
    (HR:Hid (∀ w w2 ge g,P w ge→Below w.heap.size w w2→w2.cell? ⟨g,0,none⟩=some (.int .i64 a)→w2.cell? ⟨g,1,none⟩=some (.int .i64 b)→Calls Tryz.prog 6 #[.pointer (some ⟨ge,0,none⟩),.agg #[.bool false,.string ⟨#[77,97,105,110]⟩,.string ⟨#[102]⟩,.string ⟨#[40,73,73,41,73]⟩],.slice (some ⟨g,0,none⟩) 2 2,.int .i64 9] w2 fun e w'=>e=.returned (.tuple #[.agg #[.string ⟨#[]⟩,.int .i64 0,.bool true,.bool false,.int .i64 (wrap32 (a * b)),.int .i64 4],.int .i64 0])∧Below w2.heap.size w2 w')) :
    Calls Tryz.prog 3 #[.int .i32 a,.int .i32 b,.int .i64 9] W fun e w'=>e=.returned (.bool true)∧Below W.heap.size W w':=by
  have c1:∀ w:World,(convert 21 3 (.int .i32 a)).run Tryz.prog w=.ok (.int .i64 a) w:=fun w=>by
    simp [convert,run_underlying Tryz.underlying3,run_underlying Tryz.underlying21,go_sem]
    rw [IntKind.wrap_i64];obtain ⟨z1,z2⟩:=ha;omega
  have c2:∀ w:World,(convert 21 3 (.int .i32 b)).run Tryz.prog w=.ok (.int .i64 b) w:=fun w=>by
    simp [convert,run_underlying Tryz.underlying3,run_underlying Tryz.underlying21,go_sem]
    rw [IntKind.wrap_i64];obtain ⟨z1,z2⟩:=hb;omega
  have d7:∀ w:World,(convert 21 3 (.int .i32 (wrap32 (a+b)))).run Tryz.prog w=.ok (.int .i64 (wrap32 (a+b))) w:=fun w=>by
    simp [convert,run_underlying Tryz.underlying3,run_underlying Tryz.underlying21,go_sem]
    rw [IntKind.wrap_i64];obtain ⟨z1,z2⟩:=w32_b (a+b);omega
  have d9:∀ w:World,(convert 21 3 (.int .i32 (wrap32 (a * b)))).run Tryz.prog w=.ok (.int .i64 (wrap32 (a * b))) w:=fun w=>by
    simp [convert,run_underlying Tryz.underlying3,run_underlying Tryz.underlying21,go_sem]
    rw [IntKind.wrap_i64];obtain ⟨z1,z2⟩:=w32_b (a * b);omega
  go_enter Tryz.func3,Tryz.ntmps3
  go_wp2_with (first
    | (go_at_call 4;refine (HA.out _).mono ?_;rintro e w1 ⟨rfl,hb⟩;have B1:Hid (Below W.heap.size W w1):=hb;clear hb HA)
    | (go_at_call 5;refine (H1.out _ w1.heap.size _ (halloc1 w1 _)).mono ?_;rintro e w2 ⟨ge,rfl,hb,hp⟩;have B2:Hid (Below W.heap.size W w2):=Below.step (B1.out.alloc B1.out.size _) hb;have HP:Hid (P w2 ge):=hp;clear hb hp H1)
    | (go_at_call 6;refine (HR.out w2 _ ge w2.heap.size HP.out ((Below.refl _ _).alloc (Nat.le_refl _) _) (by first|exact (cell_of_row _ _ 0 _ _ _ (halloc1 _ _)).trans rfl|simp) (by first|exact (cell_of_row _ _ 1 _ _ _ (halloc1 _ _)).trans rfl|simp)).mono ?_;rintro e w3 ⟨rfl,hb⟩;have B3:Hid (Below W.heap.size W w3):=Below.step (B2.out.alloc B2.out.size _) hb;clear hb HR))
  go_ret
  exact ⟨rfl,B3.out.alloc B3.out.size _⟩
set_option maxHeartbeats 2000000 in
theorem rk_10 {a b:Int} {W:World} (ha:-2147483648≤a∧a≤2147483647) (hb:-2147483648≤b∧b≤2147483647) (hz:¬ b=0) {P:World→Nat→Prop} (HA:Hid (∀ w,Calls Tryz.prog 4 #[] w fun e w'=>e=.returned (.bool true)∧Below w.heap.size w w'))
    (H1:Hid (∀ w n3 t3,w.heap[n3]?=some (.cells #[.int .i64 2,.int .i64 0,.string ⟨#[]⟩,.bool false,.string ⟨#[]⟩,.string ⟨#[]⟩,.string ⟨#[]⟩,.int .i64 2,.int .i64 1,.string ⟨#[]⟩,.bool false,.string ⟨#[]⟩,.string ⟨#[]⟩,.string ⟨#[]⟩,.int .i64 10,.int .i64 0,.string ⟨#[]⟩,.bool false,.string ⟨#[]⟩,.string ⟨#[]⟩,.string ⟨#[]⟩,.int .i64 36,.int .i64 0,.string ⟨#[]⟩,.bool false,.string ⟨#[]⟩,.string ⟨#[]⟩,.string ⟨#[]⟩] t3 (0,0))→Calls Tryz.prog 5 #[.string ⟨#[40,73,73,41,73]⟩,.slice (some ⟨n3,0,none⟩) 4 4] w fun e w'=>∃ ge,e=.returned (.pointer (some ⟨ge,0,none⟩))∧Below w.heap.size w w'∧P w' ge))
    (HR:Hid (∀ w w2 ge g,P w ge→Below w.heap.size w w2→w2.cell? ⟨g,0,none⟩=some (.int .i64 a)→w2.cell? ⟨g,1,none⟩=some (.int .i64 b)→Calls Tryz.prog 6 #[.pointer (some ⟨ge,0,none⟩),.agg #[.bool false,.string ⟨#[77,97,105,110]⟩,.string ⟨#[102]⟩,.string ⟨#[40,73,73,41,73]⟩],.slice (some ⟨g,0,none⟩) 2 2,.int .i64 9] w2 fun e w'=>e=.returned (.tuple #[.agg #[.string ⟨#[]⟩,.int .i64 0,.bool true,.bool false,.int .i64 (wrap32 (a.tdiv b)),.int .i64 4],.int .i64 0])∧Below w2.heap.size w2 w')) :
    Calls Tryz.prog 3 #[.int .i32 a,.int .i32 b,.int .i64 10] W fun e w'=>e=.returned (.bool true)∧Below W.heap.size W w':=by
  have z1:(b == 0)=false:=by simpa using hz
  have c1:∀ w:World,(convert 21 3 (.int .i32 a)).run Tryz.prog w=.ok (.int .i64 a) w:=fun w=>by
    simp [convert,run_underlying Tryz.underlying3,run_underlying Tryz.underlying21,go_sem]
    rw [IntKind.wrap_i64];obtain ⟨z1,z2⟩:=ha;omega
  have c2:∀ w:World,(convert 21 3 (.int .i32 b)).run Tryz.prog w=.ok (.int .i64 b) w:=fun w=>by
    simp [convert,run_underlying Tryz.underlying3,run_underlying Tryz.underlying21,go_sem]
    rw [IntKind.wrap_i64];obtain ⟨z1,z2⟩:=hb;omega
  have d7:∀ w:World,(convert 21 3 (.int .i32 (wrap32 (a+b)))).run Tryz.prog w=.ok (.int .i64 (wrap32 (a+b))) w:=fun w=>by
    simp [convert,run_underlying Tryz.underlying3,run_underlying Tryz.underlying21,go_sem]
    rw [IntKind.wrap_i64];obtain ⟨z1,z2⟩:=w32_b (a+b);omega
  have d10:∀ w:World,(convert 21 3 (.int .i32 (wrap32 (a.tdiv b)))).run Tryz.prog w=.ok (.int .i64 (wrap32 (a.tdiv b))) w:=fun w=>by
    simp [convert,run_underlying Tryz.underlying3,run_underlying Tryz.underlying21,go_sem]
    rw [IntKind.wrap_i64];obtain ⟨z1,z2⟩:=w32_b (a.tdiv b);omega
  go_enter Tryz.func3,Tryz.ntmps3
  go_wp2_with (first
    | (go_at_call 4;refine (HA.out _).mono ?_;rintro e w1 ⟨rfl,hb⟩;have B1:Hid (Below W.heap.size W w1):=hb;clear hb HA)
    | (go_at_call 5;refine (H1.out _ w1.heap.size _ (halloc1 w1 _)).mono ?_;rintro e w2 ⟨ge,rfl,hb,hp⟩;have B2:Hid (Below W.heap.size W w2):=Below.step (B1.out.alloc B1.out.size _) hb;have HP:Hid (P w2 ge):=hp;clear hb hp H1)
    | (go_at_call 6;refine (HR.out w2 _ ge w2.heap.size HP.out ((Below.refl _ _).alloc (Nat.le_refl _) _) (by first|exact (cell_of_row _ _ 0 _ _ _ (halloc1 _ _)).trans rfl|simp) (by first|exact (cell_of_row _ _ 1 _ _ _ (halloc1 _ _)).trans rfl|simp)).mono ?_;rintro e w3 ⟨rfl,hb⟩;have B3:Hid (Below W.heap.size W w3):=Below.step (B2.out.alloc B2.out.size _) hb;clear hb HR))
  go_ret
  exact ⟨rfl,B3.out.alloc B3.out.size _⟩
set_option maxHeartbeats 2000000 in
theorem rk_0 {a:Int} {W:World} (ha:-2147483648≤a∧a≤2147483647) {P:World→Nat→Prop} (HA:Hid (∀ w,Calls Tryz.prog 4 #[] w fun e w'=>e=.returned (.bool true)∧Below w.heap.size w w'))
    (H1:Hid (∀ w n3 t3,w.heap[n3]?=some (.cells #[.int .i64 2,.int .i64 0,.string ⟨#[]⟩,.bool false,.string ⟨#[]⟩,.string ⟨#[]⟩,.string ⟨#[]⟩,.int .i64 2,.int .i64 1,.string ⟨#[]⟩,.bool false,.string ⟨#[]⟩,.string ⟨#[]⟩,.string ⟨#[]⟩,.int .i64 10,.int .i64 0,.string ⟨#[]⟩,.bool false,.string ⟨#[]⟩,.string ⟨#[]⟩,.string ⟨#[]⟩,.int .i64 36,.int .i64 0,.string ⟨#[]⟩,.bool false,.string ⟨#[]⟩,.string ⟨#[]⟩,.string ⟨#[]⟩] t3 (0,0))→Calls Tryz.prog 5 #[.string ⟨#[40,73,73,41,73]⟩,.slice (some ⟨n3,0,none⟩) 4 4] w fun e w'=>∃ ge,e=.returned (.pointer (some ⟨ge,0,none⟩))∧Below w.heap.size w w'∧P w' ge))
    (HR:Hid (∀ w w2 ge g,P w ge→Below w.heap.size w w2→w2.cell? ⟨g,0,none⟩=some (.int .i64 a)→w2.cell? ⟨g,1,none⟩=some (.int .i64 0)→Calls Tryz.prog 6 #[.pointer (some ⟨ge,0,none⟩),.agg #[.bool false,.string ⟨#[77,97,105,110]⟩,.string ⟨#[102]⟩,.string ⟨#[40,73,73,41,73]⟩],.slice (some ⟨g,0,none⟩) 2 2,.int .i64 9] w2 fun e w'=>e=.returned (.tuple #[.agg #[.string ⟨#[]⟩,.int .i64 29,.bool false,.bool false,.int .i64 0,.int .i64 3],.int .i64 0])∧Below w2.heap.size w2 w')) :
    Calls Tryz.prog 3 #[.int .i32 a,.int .i32 0,.int .i64 10] W fun e w'=>e=.returned (.bool true)∧Below W.heap.size W w':=by
  have c1:∀ w:World,(convert 21 3 (.int .i32 a)).run Tryz.prog w=.ok (.int .i64 a) w:=fun w=>by
    simp [convert,run_underlying Tryz.underlying3,run_underlying Tryz.underlying21,go_sem]
    rw [IntKind.wrap_i64];obtain ⟨z1,z2⟩:=ha;omega
  go_enter Tryz.func3,Tryz.ntmps3
  go_wp2_with (first
    | (go_at_call 4;refine (HA.out _).mono ?_;rintro e w1 ⟨rfl,hb⟩;have B1:Hid (Below W.heap.size W w1):=hb;clear hb HA)
    | (go_at_call 5;refine (H1.out _ w1.heap.size _ (halloc1 w1 _)).mono ?_;rintro e w2 ⟨ge,rfl,hb,hp⟩;have B2:Hid (Below W.heap.size W w2):=Below.step (B1.out.alloc B1.out.size _) hb;have HP:Hid (P w2 ge):=hp;clear hb hp H1)
    | (go_at_call 6;refine (HR.out w2 _ ge w2.heap.size HP.out ((Below.refl _ _).alloc (Nat.le_refl _) _) (by first|exact (cell_of_row _ _ 0 _ _ _ (halloc1 _ _)).trans rfl|simp) (by first|exact (cell_of_row _ _ 1 _ _ _ (halloc1 _ _)).trans rfl|simp)).mono ?_;rintro e w3 ⟨rfl,hb⟩;have B3:Hid (Below W.heap.size W w3):=Below.step (B2.out.alloc B2.out.size _) hb;clear hb HR))
  go_ret
  exact ⟨rfl,B3.out.alloc B3.out.size _⟩
theorem rk_x {a b op:Int} {W:World} (ho:op<7∨10<op) (HA:Hid (∀ w,Calls Tryz.prog 4 #[] w fun e w'=>e=.returned (.bool true)∧Below w.heap.size w w')) :
    Calls Tryz.prog 3 #[.int .i32 a,.int .i32 b,.int .i64 op] W fun e w'=>e=.returned (.bool true)∧Below W.heap.size W w':=by
  rcases ho with ho|ho
  · have z1:decide (op<7)=true:=by simpa using ho
    go_enter Tryz.func3,Tryz.ntmps3
    go_wp2_with (go_at_call 4;refine (HA.out _).mono ?_;rintro e w1 ⟨rfl,hb⟩;have B1:Hid (Below W.heap.size W w1):=hb;clear hb HA)
    go_ret
    exact ⟨rfl,B1.out⟩
  · have z1:decide (op<7)=false:=by simp;omega
    have z2:decide (10<op)=true:=by simpa using ho
    have z3:¬ op<7:=by omega
    go_enter Tryz.func3,Tryz.ntmps3
    go_wp2_with (go_at_call 4;refine (HA.out _).mono ?_;rintro e w1 ⟨rfl,hb⟩;have B1:Hid (Below W.heap.size W w1):=hb;clear hb HA)
    go_ret
    exact ⟨rfl,B1.out⟩
end Go.Proofs.YtgoncofcmchnjaaGreatDoor.Sk
