import Derived.Test.YtlohdfpinmdljaaGreatDoorEnC
import Derived.Test.YtlohdfpinmdljaaGreatDoorSkH
import Derived.Lib.Builder
import Derived.Lib.AppendStr
import Derived.Lib.UnsafeStr
set_option maxRecDepth 100000
namespace Go.Proofs.YtlohdfpinmdljaaGreatDoor.Sk
open Go.RowKit Go.Maps
structure RA where
  ge:Nat
  he:Nat
  sb:Nat
  fb:Nat
  fc:Nat
  ba:Value
  bb:Value
  fu:Int
  nm:ByteArray
  ds:ByteArray
  fl:Int
  lo:Int
  st:Int
  cb:Nat
  cc:Nat
  code:List (Int×Int)
  ci:Int
  cj:Int
def runC (A:RA) (n:Nat) (sp:Nat) (hs vr:Bool) (vn:Int):Array Value:=#[.pointer (some ⟨A.ge,0,none⟩),.pointer (some ⟨A.he,0,none⟩),.pointer (some ⟨A.sb,0,none⟩),.slice (some ⟨A.fb,0,none⟩) n A.fc,A.ba,A.bb,.int .i64 A.fu,.string ⟨#[]⟩,.int .i64 0,.bool hs,.bool vr,.int .i64 vn,.int .i64 (sp:Int)]
def frmC (A:RA) (nx:Nat):List Value:=[.string A.nm,.string A.ds,.int .i64 A.fl,.int .i64 A.lo,.int .i64 A.st,.slice (some ⟨A.cb,0,none⟩) A.code.length A.cc,.int .i64 A.ci,.int .i64 A.cj,.int .i64 (nx:Int)]
def inC (i:Int×Int):Array Value:=#[.int .i64 i.1,.int .i64 i.2,.string ⟨#[]⟩,.bool false,.string ⟨#[]⟩,.string ⟨#[]⟩,.string ⟨#[]⟩]
structure RuAt (w:World) (K:Nat→Prop) (rb:Nat) (A:RA) (sp nx:Nat) (p:PF):Prop where
  sk:StA w K A.sb [p]
  hr:w.heap[rb]?=some (.cells (runC A 1 sp false false 0) 88 (0,0))
  hf:w.ownsRow 0 149 9 (.slice (some ⟨A.fb,0,none⟩) 1 A.fc) 1 (frmC A nx)
  hc:∀ k i,A.code[k]?=some i→∀ j,j<7→w.cell? ⟨A.cb,k * 7+j,none⟩=(inC i)[j]?
  cl:A.cb<w.heap.size
  nr:¬ K rb
  nf:¬ K A.fb
  nc:¬ K A.cb
  rf:rb≠A.fb
  rc:A.cb≠rb
  fc:A.cb≠A.fb
theorem RuAt.rl {w:World} {K:Nat→Prop} {rb:Nat} {A:RA} {sp nx:Nat} {p:PF} (h:RuAt w K rb A sp nx p):rb<w.heap.size:=(Array.getElem?_eq_some_iff.1 h.hr).1
theorem RuAt.fbl {w:World} {K:Nat→Prop} {rb:Nat} {A:RA} {sp nx:Nat} {p:PF} (h:RuAt w K rb A sp nx p):A.fb<w.heap.size:=(h.hf.lt A.fb rfl).2
theorem RuAt.keep {w w':World} {K K':Nat→Prop} {rb:Nat} {A:RA} {sp nx:Nat} {p q:PF} (h:RuAt w K rb A sp nx p) (s:StA w' K' A.sb [q]) (hk:∀ j,K' j→K j∨w.heap.size≤j) (hz:w.heap.size≤w'.heap.size) (ht:∀ j,j<w.heap.size→¬ K j→w'.heap[j]?=w.heap[j]?):RuAt w' K' rb A sp nx q :=
  { sk:=s
    hr:=(ht rb h.rl h.nr).trans h.hr
    hf:=own_keep h.hf (fun g hg=>by obtain rfl:A.fb=g:=(by simpa [Value.ownBlock] using hg);exact ht _ h.fbl h.nf)
    hc:=fun k i hi j hj=>by
      rw [← h.hc k i hi j hj]
      simp only [World.cell?,ht A.cb h.cl h.nc]
    cl:=Nat.lt_of_lt_of_le h.cl hz
    nr:=fun x=>(hk rb x).elim h.nr (fun y=>by have:=h.rl;omega)
    nf:=fun x=>(hk _ x).elim h.nf (fun y=>by have:=h.fbl;omega)
    nc:=fun x=>(hk _ x).elim h.nc (fun y=>by have:=h.cl;omega)
    rf:=h.rf
    rc:=h.rc
    fc:=h.fc }
theorem RuAt.below {w w':World} {K:Nat→Prop} {rb:Nat} {A:RA} {sp nx:Nat} {p:PF} (h:RuAt w K rb A sp nx p) (hb:Below w.heap.size w w'):RuAt w' K rb A sp nx p :=
  h.keep (h.sk.below hb) (fun _ x=>.inl x) hb.size (fun j hj _=>hb.block j hj)
theorem RuAt.setSp {w:World} {K:Nat→Prop} {rb:Nat} {A:RA} {sp nx:Nat} {p:PF} (h:RuAt w K rb A sp nx p) (sp':Nat):RuAt (w.setCell ⟨rb,12,none⟩ (.int .i64 (sp':Int))) K rb A sp' nx p:=by
  have far:∀ j,j≠rb→(w.setCell ⟨rb,12,none⟩ (.int .i64 (sp':Int))).heap[j]?=w.heap[j]?:=fun j hj=>Below.heap_setCell _ _ _ _ hj
  have hz:(w.setCell ⟨rb,12,none⟩ (.int .i64 (sp':Int))).heap.size=w.heap.size:=by simp [World.setCell]
  exact
  { sk:=h.sk.keep (by omega) (fun j hj hk=>far j (fun e=>h.nr (e ▸ hk)))
    hr:=by rw [Go.Joins.block_setCell h.hr];rfl
    hf:=own_keep h.hf (fun x hx=>by obtain rfl:A.fb=x:=(by simpa [Value.ownBlock] using hx);exact far _ h.rf.symm)
    hc:=fun k i hi j hj=>by
      rw [← h.hc k i hi j hj]
      simp only [World.cell?,far A.cb h.rc]
    cl:=by have:=h.cl;omega
    nr:=h.nr,nf:=h.nf,nc:=h.nc,rf:=h.rf,rc:=h.rc,fc:=h.fc }
theorem RuAt.setNx {w:World} {K:Nat→Prop} {rb:Nat} {A:RA} {sp nx:Nat} {p:PF} (h:RuAt w K rb A sp nx p) (nx':Nat):RuAt (w.setCell ⟨A.fb,8,none⟩ (.int .i64 (nx':Int))) K rb A sp nx' p:=by
  have far:∀ j,j≠A.fb→(w.setCell ⟨A.fb,8,none⟩ (.int .i64 (nx':Int))).heap[j]?=w.heap[j]?:=fun j hj=>Below.heap_setCell _ _ _ _ hj
  have hz:(w.setCell ⟨A.fb,8,none⟩ (.int .i64 (nx':Int))).heap.size=w.heap.size:=by simp [World.setCell]
  exact
  { sk:=h.sk.keep (by omega) (fun j hj hk=>far j (fun e=>h.nf (e ▸ hk)))
    hr:=(far rb h.rf).trans h.hr
    hf:=(h.hf.stored 8 (.int .i64 (nx':Int))).1
    hc:=fun k i hi j hj=>by
      rw [← h.hc k i hi j hj]
      simp only [World.cell?,far A.cb h.fc]
    cl:=by have:=h.cl;omega
    nr:=h.nr,nf:=h.nf,nc:=h.nc,rf:=h.rf,rc:=h.rc,fc:=h.fc }
theorem RuAt.c {w:World} {K:Nat→Prop} {rb:Nat} {A:RA} {sp nx:Nat} {p:PF} (h:RuAt w K rb A sp nx p):w.cell? ⟨rb,0,none⟩=some (.pointer (some ⟨A.ge,0,none⟩))∧w.cell? ⟨rb,2,none⟩=some (.pointer (some ⟨A.sb,0,none⟩))∧w.cell? ⟨rb,3,none⟩=some (.slice (some ⟨A.fb,0,none⟩) 1 A.fc)∧w.cell? ⟨rb,6,none⟩=some (.int .i64 A.fu)∧w.cell? ⟨rb,12,none⟩=some (.int .i64 (sp:Int))∧(∀ k,w.frozen? ⟨rb,k,none⟩=false) :=
  ⟨(cell_of_row w rb 0 _ _ _ h.hr).trans rfl,(cell_of_row w rb 2 _ _ _ h.hr).trans rfl,(cell_of_row w rb 3 _ _ _ h.hr).trans rfl,(cell_of_row w rb 6 _ _ _ h.hr).trans rfl,(cell_of_row w rb 12 _ _ _ h.hr).trans rfl,fun k=>frozen_of_row w rb k _ _ h.hr⟩
theorem RuAt.f {w:World} {K:Nat→Prop} {rb:Nat} {A:RA} {sp nx:Nat} {p:PF} (h:RuAt w K rb A sp nx p):w.cell? ⟨A.fb,1,none⟩=some (.string A.ds)∧w.cell? ⟨A.fb,5,none⟩=some (.slice (some ⟨A.cb,0,none⟩) A.code.length A.cc)∧w.cell? ⟨A.fb,8,none⟩=some (.int .i64 (nx:Int))∧(∀ k,w.frozen? ⟨A.fb,k,none⟩=false) :=
  ⟨(h.hf.cellAt 1 (by decide)).trans rfl,(h.hf.cellAt 5 (by decide)).trans rfl,(h.hf.cellAt 8 (by decide)).trans rfl,fun k=>h.hf.frozenAt k⟩
theorem top_e {W:World} {rb fb fc:Nat} (h:W.cell? ⟨rb,3,none⟩=some (.slice (some ⟨fb,0,none⟩) 1 fc)):Calls Tryz.prog 48 #[.pointer (some ⟨rb,0,none⟩)] W fun e w'=>e=.returned (.pointer (some ⟨fb,0,none⟩))∧w'=W.drew:=by
  go_enter Tryz.func48,Tryz.ntmps48
  go_upto_region 1 with fail
  all_goals go_region
  all_goals go_wp2
  all_goals go_ret
  all_goals exact ⟨rfl,rfl⟩
def inV (i:Int×Int):Value:=.agg #[.int .i64 i.1,.int .i64 i.2,.string ⟨#[]⟩,.bool false,.string ⟨#[]⟩,.string ⟨#[]⟩,.string ⟨#[]⟩]
set_option maxHeartbeats 8000000 in
theorem step_e {W:World} {K:Nat→Prop} {rb:Nat} {A:RA} {sp nx:Nat} {p:PF} (h:RuAt W K rb A sp nx p) (op n:Int) (hi:A.code[nx]?=some (op,n)) (hz:A.code.length≤1000) (hsp:(sp:Int)<A.fu) (hfu:A.fu≤100000) (E:Ending) (hE:E=.returned (.tuple #[])∨∃ x,E=thr x) (Q:World→Prop)
    (HD:∀ w,RuAt w K rb A (sp+1) (nx+1) p→Tch (fun j=>j=rb∨j=A.fb) W w→Calls Tryz.prog 50 #[.pointer (some ⟨rb,0,none⟩),inV (op,n)] w fun e w'=>e=E∧Q w') :
    Calls Tryz.prog 26 #[.pointer (some ⟨rb,0,none⟩)] W fun e w'=>e=E∧Q w':=by
  obtain ⟨c0,c2,c3,c6,c12,rz⟩:=h.c
  obtain ⟨f1,f5,f8,fz⟩:=h.f
  have hl:=(List.getElem?_eq_some_iff.1 hi).1
  have H0:Hid (RuAt W K rb A sp nx p):=h
  have hrl:=h.rl
  have hfl:=h.fbl
  have hcl:=h.cl
  have hrf:=h.rf
  have hrc:=h.rc
  have hfc:=h.fc
  obtain ⟨L,hL⟩:∃ L,A.code.length=L:=⟨_,rfl⟩
  obtain ⟨fb,hfb⟩:∃ fb,A.fb=fb:=⟨_,rfl⟩
  obtain ⟨cb,hcb⟩:∃ cb,A.cb=cb:=⟨_,rfl⟩
  obtain ⟨cc,hcc⟩:∃ cc,A.cc=cc:=⟨_,rfl⟩
  obtain ⟨fu,hfu2⟩:∃ fu,A.fu=fu:=⟨_,rfl⟩
  have HA:Hid (A.fb=fb∧A.cb=cb∧A.code.length=L∧A.cc=cc):=⟨hfb,hcb,hL,hcc⟩
  have HI:Hid (A.code[nx]?=some (op,n)):=hi
  rw [hL] at hl hz f5
  rw [hfb] at f1 f5 f8 fz hfl hrf hfc c3
  rw [hcb] at f5 hcl hrc hfc
  rw [hcc] at f5
  rw [hfu2] at hsp hfu c6
  have HT:Hid (∀ w,Below W.heap.size W w→Calls Tryz.prog 48 #[.pointer (some ⟨rb,0,none⟩)] w fun e w'=>e=.returned (.pointer (some ⟨fb,0,none⟩))∧w'=w.drew):=fun w hb=>top_e ((hb.cell (p:=⟨rb,3,none⟩) hrl).trans c3)
  have HN:Hid (∀ x w,Calls Tryz.prog 49 #[.bool false,.int .i64 x] w fun e w'=>e=.returned (.tuple #[])∧w'=w):=fun x w=>tif_no x w
  have HDD:Hid (∀ w,RuAt w K rb A (sp+1) (nx+1) p→Tch (fun j=>j=rb∨j=fb) W w→Calls Tryz.prog 50 #[.pointer (some ⟨rb,0,none⟩),.agg #[.int .i64 op,.int .i64 n,.string ⟨#[]⟩,.bool false,.string ⟨#[]⟩,.string ⟨#[]⟩,.string ⟨#[]⟩]] w fun e w'=>e=E∧Q w'):=fun w h1 h2=>HD w h1 (by rw [hfb];exact h2)
  have hle:¬ L≤nx:=by omega
  have hle2:decide (L≤nx)=false:=by simpa using hle
  have hge:¬ fu≤(sp:Int):=by omega
  have hge2:decide (fu≤(sp:Int))=false:=by simpa using hge
  clear h hi HD hL hfb hcb hcc hfu2
  go_enter Tryz.func26,Tryz.ntmps26
  go_upto_region 1 with (go_at_call 48;refine (HT.out _ (by repeat (first|exact Below.refl _ _|refine Below.setCell ?_ (by simp;try omega) _|refine Below.alloc ?_ (by simp;try omega) _|refine Below.drew ?_))).mono ?_;rintro e w1 ⟨rfl,hw⟩;obtain rfl:=hw.symm)
  go_cut [] (fun wx=>Hid (wx=W.drew.drew))
  case first =>
    go_region_with (go_at_call 49;refine (HN.out _ _).mono ?_;rintro e w1 ⟨rfl,hw⟩;obtain rfl:=hw.symm)
    all_goals (go_wp2_with fail)
    all_goals go_meet
    all_goals exact rfl
  case rest =>
    have hcut2:=hcut.out
    clear hcut
    subst hcut2
    go_upto_region 2 with fail
    go_cut [] (fun wx=>Hid (wx=W.drew.drew.drew))
    case first =>
      go_region_with (go_at_call 49;refine (HN.out _ _).mono ?_;rintro e w1 ⟨rfl,hw⟩;obtain rfl:=hw.symm)
      all_goals (go_wp2_with fail)
      all_goals go_meet
      all_goals exact rfl
    case rest =>
      have hcut2:=hcut.out
      clear hcut
      subst hcut2
      go_upto_region 4 with fail
      obtain ⟨V,hV⟩:∃ V,V=(W.setCell ⟨rb,12,none⟩ (.int .i64 ((sp:Int)+1))).drew.drew.drew:=⟨_,rfl⟩
      have e1:(sp:Int)+1=((sp+1:Nat):Int):=by omega
      have RV:RuAt V K rb A (sp+1) nx p:=by
        rw [hV,e1]
        exact (H0.out.setSp (sp+1)).below ((Below.refl _ _).drew.drew.drew)
      have TV:Hid (Tch (fun j=>j=rb∨j=fb) W V):=by
        rw [hV]
        exact (((Tch.refl _ W).set (.inl (.inl rfl)) _).drew.drew).drew
      have zV:V.heap.size=W.heap.size:=by rw [hV];simp
      rw [← hV]
      obtain ⟨g1,g5,g8,gz⟩:=RV.f
      obtain ⟨i0,i1,i2,i3,i4,i5,i6⟩:V.cell? ⟨A.cb,nx * 7,none⟩=some (.int .i64 op)∧V.cell? ⟨A.cb,nx * 7+1,none⟩=some (.int .i64 n)∧V.cell? ⟨A.cb,nx * 7+2,none⟩=some (.string ⟨#[]⟩)∧V.cell? ⟨A.cb,nx * 7+3,none⟩=some (.bool false)∧V.cell? ⟨A.cb,nx * 7+4,none⟩=some (.string ⟨#[]⟩)∧V.cell? ⟨A.cb,nx * 7+5,none⟩=some (.string ⟨#[]⟩)∧V.cell? ⟨A.cb,nx * 7+6,none⟩=some (.string ⟨#[]⟩) :=
        ⟨(RV.hc nx _ HI.out 0 (by decide)).trans rfl,(RV.hc nx _ HI.out 1 (by decide)).trans rfl,(RV.hc nx _ HI.out 2 (by decide)).trans rfl,(RV.hc nx _ HI.out 3 (by decide)).trans rfl,(RV.hc nx _ HI.out 4 (by decide)).trans rfl,(RV.hc nx _ HI.out 5 (by decide)).trans rfl,(RV.hc nx _ HI.out 6 (by decide)).trans rfl⟩
      rw [HA.out.1] at g5 g8 gz
      rw [HA.out.2.1,HA.out.2.2.1,HA.out.2.2.2] at g5
      rw [HA.out.2.1] at i0 i1 i2 i3 i4 i5 i6
      have HRV:Hid (RuAt V K rb A (sp+1) nx p):=RV
      have h0:(0:Int)≤(nx:Int):=by omega
      have h1:(nx:Int)<(L:Int):=by omega
      have nb:¬ rb=V.heap.size:=by omega
      have nf:¬ fb=V.heap.size:=by omega
      have nc:¬ cb=V.heap.size:=by omega
      clear RV hV e1
      go_cut [3] (fun s3 wx=>Hid (s3=.pointer (some ⟨V.heap.size,0,none⟩)∧wx.heap[V.heap.size]?=some (.cells (inC (op,n)) 28 (0,0))∧Below V.heap.size V wx))
      case first =>
        go_region
        all_goals (go_wp2_with fail)
        all_goals go_meet
        all_goals exact ⟨by rw [zV],halloc1 _ _,((Below.refl _ _).alloc (Nat.le_refl _) _).drew⟩
      case rest =>
        obtain ⟨rfl,hb3,hbel⟩:=hcut.out
        clear hcut
        have RC:=HRV.out.below hbel
        have HRC:Hid (RuAt wc K rb A (sp+1) nx p):=RC
        have TC:Hid (Tch (fun j=>j=rb∨j=fb) W wc):=TV.out.bel hbel
        rw [zV] at hb3
        obtain ⟨m1,m5,m8,mz⟩:=RC.f
        rw [HA.out.1] at m8 mz
        have k0:wc.cell? ⟨W.heap.size,0,none⟩=some (.int .i64 op):=(cell_of_row wc _ 0 _ _ _ hb3).trans rfl
        have k1:wc.cell? ⟨W.heap.size,1,none⟩=some (.int .i64 n):=(cell_of_row wc _ 1 _ _ _ hb3).trans rfl
        have k2:wc.cell? ⟨W.heap.size,2,none⟩=some (.string ⟨#[]⟩):=(cell_of_row wc _ 2 _ _ _ hb3).trans rfl
        have k3:wc.cell? ⟨W.heap.size,3,none⟩=some (.bool false):=(cell_of_row wc _ 3 _ _ _ hb3).trans rfl
        have k4:wc.cell? ⟨W.heap.size,4,none⟩=some (.string ⟨#[]⟩):=(cell_of_row wc _ 4 _ _ _ hb3).trans rfl
        have k5:wc.cell? ⟨W.heap.size,5,none⟩=some (.string ⟨#[]⟩):=(cell_of_row wc _ 5 _ _ _ hb3).trans rfl
        have k6:wc.cell? ⟨W.heap.size,6,none⟩=some (.string ⟨#[]⟩):=(cell_of_row wc _ 6 _ _ _ hb3).trans rfl
        have nf2:¬ W.heap.size=fb:=by omega
        have e1:(nx:Int)+1=((nx+1:Nat):Int):=by omega
        have HX:Hid (Calls Tryz.prog 50 #[.pointer (some ⟨rb,0,none⟩),.agg #[.int .i64 op,.int .i64 n,.string ⟨#[]⟩,.bool false,.string ⟨#[]⟩,.string ⟨#[]⟩,.string ⟨#[]⟩]] (wc.setCell ⟨fb,8,none⟩ (.int .i64 ((nx:Int)+1))) fun e w'=>e=E∧Q w'):=HDD.out _ (by rw [e1,← HA.out.1];exact HRC.out.setNx (nx+1)) (TC.out.set (.inl (.inr rfl)) _)
        clear hb3 hbel RC m1 m5 e1 i0 i1 i2 i3 i4 i5 i6 g1 g5 g8 gz HDD HT HN
        rcases hE with rfl|⟨x,rfl⟩
        · go_wp2_with (go_at_call 50;refine HX.out.mono ?_;rintro e w9 ⟨rfl,hq⟩)
          exact bodyPost_end (results_none rfl _ _ _) rfl ⟨rfl,hq⟩
        · go_wp2_with (go_at_call 50;refine HX.out.mono ?_;rintro e w9 ⟨he,hq⟩;rw [thr] at he;subst he)
          exact ⟨rfl,rfl,hq⟩
theorem run_append_kps {P:Program} (w:World) (base:Nat) (t u ty e:TypeId) (i:TypeInfo) (ht:P.underlying t=some (.slice e)) (hu:P.underlying u=some .string) (hi:P.info? e=some i) (hz:i.zero=some (.int .u8 0))
    (hsize:i.size=1) (hby:i.bytes=1) (v:Value) (n:Nat) (xs:List Value) (hown:w.ownsRow base e 1 v n xs) (s:ByteArray)
    (h63:n+s.size≤maxLen) (hbytes:n+s.size≤140737488355328) (hbase:base≤w.heap.size) :
    ∃ v' w',(Builtin.append_ #[t,u] ty #[v,.string s]).run P w=.ok v' w'∧w'.ownsRow base e 1 v' (n+s.size) (xs++Lib.strCells s)∧w.grownBy w' v.ownBlock∧(∀ k,v'.ownBlock=some k→v.ownBlock=some k∨w.heap.size≤k):=by
  obtain ⟨v',w',hr,h2,h3,_⟩:=Lib.run_append_own_string (P:=P) w base t u ty e i ht hu hi hz hsize hby v n xs hown s h63 hbytes hbase
  refine ⟨v',w',hr,h2,h3,?_⟩
  have hm:n+s.size≤9223372036854775807:=by simp only [maxLen] at h63;omega
  rcases hown.2 with ⟨rfl,rfl⟩|⟨g,cap,cur,rfl,hb,hg,hnc,hcm,hcs,htk⟩
  · obtain ⟨v2,w2,hr2,r1,r2,_⟩:=Lib.run_append_own_string (P:=P) w w.heap.size t u ty e i ht hu hi hz hsize hby (.slice none 0 0) 0 xs ⟨hown.1,.inl ⟨rfl,rfl⟩⟩ s h63 hbytes (Nat.le_refl _)
    rw [hr] at hr2
    injection hr2 with e1 e2
    subst e1 e2
    exact fun k hk=>.inr (r1.lt k hk).1
  · by_cases hroom:n+s.size≤cap
    · have hr2:=Lib.run_append_room_string (P:=P) w t u ty e i ht hu hi hsize g n cap cur hg s hroom (by omega)
      rw [hr] at hr2
      injection hr2 with e1 e2
      subst e1 e2
      exact fun k hk=>.inl hk
    · have hr2:=Lib.run_append_grow_string (P:=P) w t u ty e i (.int .u8 0) ht hu hi hz ⟨g,0,none⟩ n cap xs (by rw [hsize];exact hown.1) (hown.cells rfl) s (by omega) (by omega) (by rw [hby];exact growslice_fits (by omega) (by omega))
      rw [hr] at hr2
      injection hr2 with e1 e2
      subst e1 e2
      exact fun k hk=>.inr (by simp [Value.ownBlock] at hk;omega)
theorem wpList_append_kps {P:Program} {w:World} {ops:Array Oper} {rest:List Oper} {o:Oper} {a:Act} {Q:Exit→Act→World→Prop} (hgd:o.guard=none) (sl x:Operand) (t u:TypeId)
    (ho:o.op=.call { callee:=.builtin .append,args:=#[sl,x],argTypes:=#[t,u] })
    (base:Nat) (e:TypeId) (i:TypeInfo) (ht:P.underlying t=some (.slice e)) (hu:P.underlying u=some .string) (hi:P.info? e=some i) (hz:i.zero=some (.int .u8 0))
    (hsize:i.size=1) (hby:i.bytes=1)
    (v:Value) (n:Nat) (xs:List Value) (hs:a.eval sl=v) (hown:w.ownsRow base e 1 v n xs) (s:ByteArray) (hx:a.eval x=.string s)
    (h63:n+s.size≤maxLen) (hbytes:n+s.size≤140737488355328) (hbase:base≤w.heap.size)
    (h:∀ v' w',w'.ownsRow base e 1 v' (n+s.size) (xs++Lib.strCells s)→w.grownBy w' v.ownBlock→(∀ k,v'.ownBlock=some k→v.ownBlock=some k∨w.heap.size≤k)→wpList P ops Q rest (a.put o.dst v') w'):wpList P ops Q (o::rest) a w:=by
  refine wpList_plain hgd fun K hK=>?_
  obtain ⟨v',w',hr,h2,h3,h4⟩:=run_append_kps (P:=P) w base t u o.type e i ht hu hi hz hsize hby v n xs hown s h63 hbytes hbase
  unfold Oper.wp execOp
  simp only [ho,resolve,invoke,builtin,Sem.run_bind,Sem.run_pure,Result.andThen_ok,List.map_toArray,List.map_cons,List.map_nil,hs,hx,hr]
  exact hK _ _ (h v' w' h2 h3 h4)
theorem byte_info:∃ i,Tryz.prog.info? 5=some i∧i.zero=some (.int .u8 0)∧i.size=1∧i.bytes=1:=by
  obtain ⟨i,hi,h⟩:=Option.map_eq_some_iff.1 (show (Tryz.prog.info? 5).map (fun i=>(i.zero,i.size,i.bytes))=some (some (.int .u8 0),1,1) by kernel_rfl)
  injection h with h1 h2
  injection h2 with h2 h3
  exact ⟨i,hi,h1,h2,h3⟩
theorem set_self {α:Type} (cs:Array α) (i:Nat) (x:α) (h:cs[i]?=some x):cs.setIfInBounds i x=cs:=by
  apply Array.ext_getElem?
  intro j
  rw [Array.getElem?_setIfInBounds]
  by_cases e:i=j
  · subst e;rw [h];simp;exact (Array.getElem?_eq_some_iff.1 h).1
  · simp [e]
set_option maxHeartbeats 1000000 in
theorem cpc_used {W:World} {rb:Nat} (h:W.cell? ⟨rb,4,none⟩=some (.pointer (some ⟨rb,4,none⟩))):Calls Tryz.prog 296 #[.pointer (some ⟨rb,4,none⟩)] W fun e w'=>e=.returned (.tuple #[])∧w'=W:=by
  obtain ⟨j,hj,_⟩:=Option.map_eq_some_iff.1 (show (Tryz.prog.info? 86).map (·.size)=some 2 by kernel_rfl)
  go_enter Tryz.func296,Tryz.ntmps296
  go_wp2
  rw [Lib.run_neq_ptr_same W _ Tryz.underlying84 hj]
  go_wp2
  go_end0
  exact ⟨rfl,rfl⟩
set_option maxHeartbeats 1000000 in
theorem cpc_fresh {W:World} {rb:Nat} {cs:Array Value} (hr:W.heap[rb]?=some (.cells cs 88 (0,0))) (hz:cs.size=13) (h:W.cell? ⟨rb,4,none⟩=some (.pointer none)):Calls Tryz.prog 296 #[.pointer (some ⟨rb,4,none⟩)] W fun e w'=>e=.returned (.tuple #[])∧w'=W.setCell ⟨rb,4,none⟩ (.pointer (some ⟨rb,4,none⟩)):=by
  obtain ⟨j,hj,hjs⟩:=Option.map_eq_some_iff.1 (show (Tryz.prog.info? 86).map (·.size)=some 2 by kernel_rfl)
  have hsh:W.shape? rb=some (88,13):=by simp [World.shape?,hr,hz]
  have hfz:W.frozen? ⟨rb,4,none⟩=false:=frozen_of_row W rb 4 _ _ hr
  have hlies:liesAt Tryz.prog Tryz.prog.depth 88 (13 / Tryz.prog.cellsOf 88) 4 86 1=true:=by kernel_rfl
  go_enter Tryz.func296,Tryz.ntmps296
  go_wp2
  rw [Lib.run_to_unsafe W ⟨rb,4,none⟩ Tryz.underlying84 Tryz.underlying218 hj (by rw [hjs];decide) hsh (by show 4<13;decide)]
  simp only [Result.andThen]
  rw [Oper.upon_value]
  go_wp2
  rw [run_callFunc_extern Tryz.func326 (by kernel_rfl) (by kernel_rfl) (by kernel_rfl) (e:=Extern.AbiNoEscape.same) (by kernel_rfl)]
  rw [Lib.run_noEscape]
  simp only [Result.andThen]
  rw [Oper.upon_value]
  go_wp2
  rw [Lib.run_from_unsafe W ⟨rb,4,none⟩ Tryz.underlying218 Tryz.underlying84 hj hsh hlies]
  simp only [Result.andThen]
  rw [Oper.upon_value]
  go_wp2
  go_end0
  exact ⟨rfl,rfl⟩
theorem cpc_c {W:World} {rb:Nat} {cs:Array Value} {ba:Value} (hr:W.heap[rb]?=some (.cells cs 88 (0,0))) (hz:cs.size=13) (h4:cs[4]?=some ba) (hba:ba=.pointer none∨ba=.pointer (some ⟨rb,4,none⟩)):Calls Tryz.prog 296 #[.pointer (some ⟨rb,4,none⟩)] W fun e w'=>e=.returned (.tuple #[])∧w'.heap[rb]?=some (.cells (cs.setIfInBounds 4 (.pointer (some ⟨rb,4,none⟩))) 88 (0,0))∧Tch (fun j=>j=rb) W w':=by
  have hc:W.cell? ⟨rb,4,none⟩=some ba:=(cell_of_row W rb 4 _ _ _ hr).trans h4
  rcases hba with rfl|rfl
  · refine (cpc_fresh hr hz hc).mono ?_
    rintro e w' ⟨rfl,rfl⟩
    exact ⟨rfl,Go.Joins.block_setCell hr _,Tch.set (Tch.refl (fun j=>j=rb) W) (p:=⟨rb,4,none⟩) (.inl rfl) _⟩
  · refine (cpc_used hc).mono ?_
    rintro e w' ⟨rfl,rfl⟩
    exact ⟨rfl,by rw [set_self _ _ _ h4];exact hr,Tch.refl _ _⟩
theorem blen_c {W:World} {rb:Nat} {a:Option Addr} {n c:Nat} (h:W.cell? ⟨rb,5,none⟩=some (.slice a n c)):Calls Tryz.prog 243 #[.pointer (some ⟨rb,4,none⟩)] W fun e w'=>e=.returned (.int .i64 n)∧w'=W:=by
  go_enter Tryz.func243,Tryz.ntmps243
  go_wp2
  go_ret
  exact ⟨rfl,rfl⟩
set_option maxHeartbeats 2000000 in
theorem wstr_c {W:World} {rb B:Nat} {cs:Array Value} {ba v:Value} (hr:W.heap[rb]?=some (.cells cs 88 (0,0))) (hz:cs.size=13) (h4:cs[4]?=some ba) (h5:cs[5]?=some v) (hba:ba=.pointer none∨ba=.pointer (some ⟨rb,4,none⟩)) (n:Nat) (xs:List Value) (ho:W.ownsRow B 5 1 v n xs) (hv:v.ownBlock≠some rb) (s:ByteArray) (hl:n+s.size≤1000000) (hB:B≤W.heap.size) :
    Calls Tryz.prog 244 #[.pointer (some ⟨rb,4,none⟩),.string s] W fun e w'=>e=.returned (.tuple #[.int .i64 s.size,.nilIface])∧∃ v',w'.heap[rb]?=some (.cells ((cs.setIfInBounds 4 (.pointer (some ⟨rb,4,none⟩))).setIfInBounds 5 v') 88 (0,0))∧w'.ownsRow B 5 1 v' (n+s.size) (xs++Lib.strCells s)∧(∀ k,v'.ownBlock=some k→v.ownBlock=some k∨W.heap.size≤k)∧Tch (fun j=>j=rb∨v.ownBlock=some j) W w':=by
  obtain ⟨i0,hi,hz0,hz1,hz2⟩:=byte_info
  have HC:=cpc_c hr hz h4 hba
  have hrl:rb<W.heap.size:=(Array.getElem?_eq_some_iff.1 hr).1
  go_enter Tryz.func244,Tryz.ntmps244
  go_upto_region 2 with (go_at_call 296;refine HC.mono ?_;rintro e w1 ⟨rfl,hr1,ht1⟩)
  have q4:w1.cell? ⟨rb,4,none⟩=some (.pointer (some ⟨rb,4,none⟩)):=(cell_of_row w1 rb 4 _ _ _ hr1).trans (by rw [Array.getElem?_setIfInBounds];simp;omega)
  have q5:w1.cell? ⟨rb,5,none⟩=some v:=(cell_of_row w1 rb 5 _ _ _ hr1).trans (by rw [Array.getElem?_setIfInBounds];simp;exact h5)
  have o1:w1.ownsRow B 5 1 v n xs:=own_keep ho (fun g hg=>ht1.blk g (ho.lt g hg).2 (fun e=>hv (e ▸ hg)))
  have hz1':W.heap.size≤w1.heap.size:=ht1.size
  go_wp2_with (at_builtin;refine wpList_append_kps rfl _ _ 55 9 rfl B 5 i0 Tryz.underlying55 Tryz.underlying9 hi hz0 hz1 hz2 _ _ _ rfl o1 s rfl ?c3 ?c4 ?c5 ?_)
  case c3=>unfold maxLen;omega
  case c4=>omega
  case c5=>omega
  intro v' w2 hown' hgrow hk
  have hb2:w2.heap[rb]?=some (.cells (cs.setIfInBounds 4 (.pointer (some ⟨rb,4,none⟩))) 88 (0,0)):=(hgrow.block rb (by omega) (fun e=>hv e.symm)).trans hr1
  have f5:w2.frozen? ⟨rb,5,none⟩=false:=frozen_of_row w2 rb 5 _ _ hb2
  have d5:w2.cell? ⟨rb,5,none⟩=some v:=(cell_of_row w2 rb 5 _ _ _ hb2).trans (by rw [Array.getElem?_setIfInBounds];simp;exact h5)
  have d4:w2.cell? ⟨rb,4,none⟩=some (.pointer (some ⟨rb,4,none⟩)):=(cell_of_row w2 rb 4 _ _ _ hb2).trans (by rw [Array.getElem?_setIfInBounds];simp;omega)
  obtain ⟨ao,n',cap,rfl⟩:∃ ao n' cap,v'=.slice ao n' cap:=by
    rcases hown'.2 with ⟨hv,_⟩|⟨g,cap,cur,hv,_⟩
    · exact ⟨_,_,_,hv⟩
    · exact ⟨_,_,_,hv⟩
  go_wp2
  go_ret2
  refine ⟨rfl,_,Go.Joins.block_setCell hb2 _,?_,fun k hkk=>(hk k hkk).imp id (fun x=>by omega),?_⟩
  · refine own_keep hown' (fun g hg=>Below.heap_setCell _ _ _ _ (fun e=>?_))
    have e2:g=rb:=e
    rcases hk g hg with x|x
    · exact hv (e2 ▸ x)
    · omega
  · exact (((ht1.mono (fun _ _ x=>Or.inl x)).grown hgrow (fun k e=>.inl (.inr e)))).set (.inl (.inl rfl)) _
set_option maxHeartbeats 2000000 in
theorem bstr_some {W:World} {rb B:Nat} {cs:Array Value} {v:Value} (hr:W.heap[rb]?=some (.cells cs 88 (0,0))) (h5:cs[5]?=some v) (l:List UInt8) (h0:l≠[]) (ho:W.ownsRow B 5 1 v l.length (Lib.byteCells l)) (hl:l.length≤1000000) (hv:v.ownBlock≠some rb) :
    Calls Tryz.prog 27 #[.pointer (some ⟨rb,4,none⟩)] W fun e w'=>e=.returned (.string ⟨l.toArray⟩)∧Tch (fun j=>v.ownBlock=some j) W w':=by
  rcases ho.2 with ⟨_,h⟩|⟨g,cap,cur,rfl,hbg,hg,hnc,hcm,hcs,htk⟩
  · exact absurd (List.eq_nil_of_length_eq_zero h) h0
  have c5:W.drew.cell? ⟨rb,5,none⟩=some (.slice (some ⟨g,0,none⟩) l.length cap):=(cell_of_row W.drew rb 5 _ _ _ hr).trans h5
  have c5':W.cell? ⟨rb,5,none⟩=some (.slice (some ⟨g,0,none⟩) l.length cap):=(cell_of_row W rb 5 _ _ _ hr).trans h5
  have hlen:0<l.length:=List.length_pos_iff.2 h0
  have hSD:∀ w:World,(Builtin.unsafeSliceData_ #[55] 151 #[.slice (some ⟨g,0,none⟩) l.length cap]).run Tryz.prog w=.ok (.pointer (some ⟨g,0,none⟩)) w:=fun w=>Lib.run_unsafeSliceData_row w _ _ _ _ _ (by omega)
  have hsh:W.drew.shape? g=some (5,cur.size):=by
    have:W.drew.heap[g]?=some (.cells cur 5 (0,0)):=hg
    simp [World.shape?,this]
  have hUS:=Lib.run_unsafeString_row (P:=Tryz.prog) W.drew 151 3 9 5 Tryz.underlying151 (by kernel_rfl) g cur.size hsh l h0 (by rw [hcs];omega) (by omega) (fun j x hj=>by
    have:=ho.cells (g:=g) rfl j (.int .u8 x.toNat) (by simp [Lib.byteCells,hj])
    exact this)
  clear hg hsh htk hcs hcm hbg
  go_enter Tryz.func27,Tryz.ntmps27
  go_upto_region 1 with fail
  go_region
  all_goals go_wp2
  all_goals go_ret
  all_goals
    refine ⟨rfl,?_⟩
    unfold World.freeze
    split
    · exact (Tch.refl _ W).drew
    · exact ⟨rfl,rfl,rfl,by simp,fun k hk hn=>by
        have hkg:¬ g=k:=fun e=>hn (by simp [Value.ownBlock,e])
        simp only [Array.getElem?_modify]
        rw [if_neg hkg];exact rfl⟩
set_option maxHeartbeats 1000000 in
theorem do_load {W:World} {rb:Nat} {n:Int} {Q:World→Prop} (HL:Hid (∀ w,Below W.heap.size W w→Calls Tryz.prog 90 #[.pointer (some ⟨rb,0,none⟩),.agg #[.int .i64 2,.int .i64 n,.string ⟨#[]⟩,.bool false,.string ⟨#[]⟩,.string ⟨#[]⟩,.string ⟨#[]⟩]] w fun e w'=>e=.returned (.tuple #[])∧Q w')):Calls Tryz.prog 50 #[.pointer (some ⟨rb,0,none⟩),inV (2,n)] W fun e w'=>e=.returned (.tuple #[])∧Q w':=by
  unfold inV
  go_enter Tryz.func50,Tryz.ntmps50
  go_wp2_with (go_at_call 90;refine (HL.out _ (by repeat (first|exact Below.refl _ _|refine Below.setCell ?_ (by simp;try omega) _|refine Below.alloc ?_ (by simp;try omega) _|refine Below.drew ?_))).mono ?_;rintro e w1 ⟨rfl,hq⟩)
  exact bodyPost_end (results_none rfl _ _ _) rfl ⟨rfl,hq⟩
set_option maxHeartbeats 1000000 in
theorem do_iconst {W:World} {rb:Nat} {n:Int} {Q:World→Prop} (HL:Hid (∀ w,Below W.heap.size W w→Calls Tryz.prog 88 #[.pointer (some ⟨rb,0,none⟩),.int .i64 n] w fun e w'=>e=.returned (.tuple #[])∧Q w')):Calls Tryz.prog 50 #[.pointer (some ⟨rb,0,none⟩),inV (1,n)] W fun e w'=>e=.returned (.tuple #[])∧Q w':=by
  unfold inV
  go_enter Tryz.func50,Tryz.ntmps50
  go_wp2_with (go_at_call 88;refine (HL.out _ (by repeat (first|exact Below.refl _ _|refine Below.setCell ?_ (by simp;try omega) _|refine Below.alloc ?_ (by simp;try omega) _|refine Below.drew ?_))).mono ?_;rintro e w1 ⟨rfl,hq⟩)
  exact bodyPost_end (results_none rfl _ _ _) rfl ⟨rfl,hq⟩
set_option maxHeartbeats 1000000 in
theorem do_comp {W:World} {rb:Nat} {op n:Int} (ho:op=7∨op=8∨op=9∨op=10) {Q:World→Prop} (HL:Hid (∀ w,Below W.heap.size W w→Calls Tryz.prog 92 #[.pointer (some ⟨rb,0,none⟩),.int .i64 op] w fun e w'=>e=.returned (.tuple #[])∧Q w')):Calls Tryz.prog 50 #[.pointer (some ⟨rb,0,none⟩),inV (op,n)] W fun e w'=>e=.returned (.tuple #[])∧Q w':=by
  unfold inV
  rcases ho with rfl|rfl|rfl|rfl
  all_goals
    go_enter Tryz.func50,Tryz.ntmps50
    go_wp2_with (go_at_call 92;refine (HL.out _ (by repeat (first|exact Below.refl _ _|refine Below.setCell ?_ (by simp;try omega) _|refine Below.alloc ?_ (by simp;try omega) _|refine Below.drew ?_))).mono ?_;rintro e w1 ⟨rfl,hq⟩)
    exact bodyPost_end (results_none rfl _ _ _) rfl ⟨rfl,hq⟩
set_option maxHeartbeats 1000000 in
theorem do_ireturn {W:World} {rb:Nat} {n:Int} {Q:World→Prop} (HL:Hid (∀ w,Below W.heap.size W w→Calls Tryz.prog 106 #[.pointer (some ⟨rb,0,none⟩)] w fun e w'=>e=.returned (.tuple #[])∧Q w')):Calls Tryz.prog 50 #[.pointer (some ⟨rb,0,none⟩),inV (36,n)] W fun e w'=>e=.returned (.tuple #[])∧Q w':=by
  unfold inV
  go_enter Tryz.func50,Tryz.ntmps50
  go_wp2_with (go_at_call 106;refine (HL.out _ (by repeat (first|exact Below.refl _ _|refine Below.setCell ?_ (by simp;try omega) _|refine Below.alloc ?_ (by simp;try omega) _|refine Below.drew ?_))).mono ?_;rintro e w1 ⟨rfl,hq⟩)
  exact bodyPost_end (results_none rfl _ _ _) rfl ⟨rfl,hq⟩
set_option maxHeartbeats 4000000 in
theorem lk_ret {n fuel L:Int} {c:Nat} {W:World} {P:World→Nat→Prop} {T D:Nat→ByteArray} (h1:1≤n∧n≤400) (h2:0≤fuel∧fuel≤4000) (hf:8 * n<fuel) (hL:(fuel+6).tdiv 8=L) (hL2:0≤L∧L≤600) (hc:(c:Int)≤L∧(c:Int)≤n∧(L≤(c:Int)∨n≤(c:Int))) (hT0:T 0=⟨#[]⟩) (hT:∀ k,T (k+1)=T k++D k++⟨#[10]⟩) (hz:∀ k:Nat,(k:Int)<n→(T k).size≤100000∧(D k).size≤100)
    (HA:Hid (∀ w,Calls Tryz.prog 4 #[] w fun e w'=>e=.returned (.bool true)∧Below w.heap.size w w'))
    (H1:Hid (∀ w n3 t3,Below W.heap.size W w→w.heap[n3]?=some (.cells #[.int .i64 2,.int .i64 0,.string ⟨#[]⟩,.bool false,.string ⟨#[]⟩,.string ⟨#[]⟩,.string ⟨#[]⟩,.int .i64 39,.int .i64 0,.string ⟨#[]⟩,.bool false,.string ⟨#[]⟩,.string ⟨#[]⟩,.string ⟨#[]⟩,.int .i64 2,.int .i64 0,.string ⟨#[]⟩,.bool false,.string ⟨#[]⟩,.string ⟨#[]⟩,.string ⟨#[]⟩,.int .i64 1,.int .i64 1,.string ⟨#[]⟩,.bool false,.string ⟨#[]⟩,.string ⟨#[]⟩,.string ⟨#[]⟩,.int .i64 8,.int .i64 0,.string ⟨#[]⟩,.bool false,.string ⟨#[]⟩,.string ⟨#[]⟩,.string ⟨#[]⟩,.int .i64 20,.int .i64 0,.string ⟨#[]⟩,.bool false,.string ⟨#[]⟩,.string ⟨#[]⟩,.string ⟨#[]⟩,.int .i64 3,.int .i64 0,.string ⟨#[]⟩,.bool false,.string ⟨#[]⟩,.string ⟨#[]⟩,.string ⟨#[]⟩,.int .i64 13,.int .i64 0,.string ⟨#[]⟩,.bool false,.string ⟨#[]⟩,.string ⟨#[]⟩,.string ⟨#[]⟩,.int .i64 38,.int .i64 0,.string ⟨#[]⟩,.bool false,.string ⟨#[]⟩,.string ⟨#[]⟩,.string ⟨#[]⟩] t3 (0,0))→Calls Tryz.prog 5 #[.string ⟨#[40,73,41,86]⟩,.slice (some ⟨n3,0,none⟩) 9 9] w fun e w'=>∃ ge,e=.returned (.pointer (some ⟨ge,0,none⟩))∧Below w.heap.size w w'∧P w' ge))
    (HR:Hid (∀ w w2 ge g,P w ge→Below W.heap.size W w→Below w.heap.size w w2→w2.cell? ⟨g,0,none⟩=some (.int .i64 n)→Calls Tryz.prog 6 #[.pointer (some ⟨ge,0,none⟩),.agg #[.bool false,.string ⟨#[77,97,105,110]⟩,.string ⟨#[102]⟩,.string ⟨#[40,73,41,86]⟩],.slice (some ⟨g,0,none⟩) 1 1,.int .i64 fuel] w2 fun e w'=>e=.returned (.tuple #[.agg #[.string (T c),.int .i64 0,.bool false,.bool false,.int .i64 0,.int .i64 (8 * n+1)],.int .i64 0])∧Below w2.heap.size w2 w'))
    (HD:Hid (∀ (k:Nat) w,(k:Int)≤n→Calls Tryz.prog 7 #[.int .i64 (n - (k:Int))] w fun e w'=>e=.returned (.string (D k))∧Below w.heap.size w w')) :
    Calls Tryz.prog 3 #[.int .i64 n,.int .i64 fuel] W fun e w'=>e=.returned (.bool true)∧Below W.heap.size W w':=by
  have z1:decide (n<1)=false:=by simp;omega
  have z2:decide (400<n)=false:=by simp;omega
  have z3:decide (fuel<0)=false:=by simp;omega
  have z4:decide (4000<fuel)=false:=by simp;omega
  have y1:¬ n<1:=by omega
  have y2:¬ 400<n:=by omega
  have y3:¬ fuel<0:=by omega
  have y4:¬ 4000<fuel:=by omega
  have e1:=IntWalk.wrap64_in (fuel+6) ⟨by omega,by omega⟩
  have e2:=IntWalk.wrap64_in L ⟨by omega,by omega⟩
  have e3:=IntWalk.wrap64_in (8 * n) ⟨by omega,by omega⟩
  have e4:=IntWalk.wrap64_in (8 * n+1) ⟨by omega,by omega⟩
  have z5:decide (8 * n<fuel)=true:=by simpa using hf
  have HC:Hid ((c:Int)≤L∧(c:Int)≤n∧(L≤(c:Int)∨n≤(c:Int))):=hc
  have HT:Hid (T 0=⟨#[]⟩∧∀ k,T (k+1)=T k++D k++⟨#[10]⟩):=⟨hT0,hT⟩
  have HN:Hid (1≤n∧n≤400):=h1
  have HZ:Hid (∀ k:Nat,(k:Int)<n→(T k).size≤100000∧(D k).size≤100):=hz
  clear hc hT0 hT hz
  go_enter Tryz.func3,Tryz.ntmps3
  go_wp2_with (first
    | (go_at_call 4;refine (HA.out _).mono ?_;rintro e w1 ⟨rfl,hb⟩;have B1:Hid (Below W.heap.size W w1):=hb;clear hb HA)
    | (go_at_call 5;refine (H1.out _ w1.heap.size _ (B1.out.alloc B1.out.size _) (halloc1 w1 _)).mono ?_;rintro e w2 ⟨ge,rfl,hb,hp⟩;have B2:Hid (Below W.heap.size W w2):=Below.step (B1.out.alloc B1.out.size _) hb;have HP:Hid (P w2 ge):=hp;clear hb hp H1)
    | (go_at_call 6;refine (HR.out w2 _ ge w2.heap.size HP.out B2.out ((Below.refl _ _).alloc (Nat.le_refl _) _) (by first|exact (cell_of_row _ _ 0 _ _ _ (halloc1 _ _)).trans rfl|simp)).mono ?_;rintro e w3 ⟨rfl,hb⟩;have B3:Hid (Below W.heap.size W w3):=Below.step (B2.out.alloc B2.out.size _) hb;clear hb HR))
  go_loopw [8,10] (fun ov kv wr=>∃ k:Nat,ov=.string (T k)∧kv=.int .i64 k∧k≤c∧Hid (∃ V:World,V=w3.alloc (.cells #[.string (T c),.int .i64 0,.bool false,.bool false,.int .i64 0,.int .i64 (8 * n+1)] 34)∧Below V.heap.size V wr)) (fun _ kv _=>c - (intOf kv).toNat)
  case atStart=>exact ⟨0,by rw [HT.out.1],rfl,Nat.zero_le _,_,rfl,Below.refl _ _⟩
  case round =>
    obtain ⟨k,rfl,rfl,hk,hv⟩:=hrel
    obtain ⟨V,hV,hb⟩:=hv.out
    have BR:Hid (Below V.heap.size V wr):=hb
    have HV:Hid (V=w3.alloc (.cells #[.string (T c),.int .i64 0,.bool false,.bool false,.int .i64 0,.int .i64 (8 * n+1)] 34)):=hV
    by_cases hkc:k<c
    · obtain ⟨c1,c2,c3⟩:=HC.out
      have d1:decide ((k:Int)<L)=true:=by simp;omega
      have d2:decide ((k:Int)<n)=true:=by simp;omega
      have d3:(k:Int)<L:=by omega
      have d4:(k:Int)<n:=by omega
      have d5:=IntWalk.wrap64_in (n - (k:Int)) ⟨by omega,by omega⟩
      have HX:Hid (∀ w,Calls Tryz.prog 7 #[.int .i64 (n - (k:Int))] w fun e w'=>e=.returned (.string (D k))∧Below w.heap.size w w'):=fun w=>HD.out k w (by omega)
      obtain ⟨s1,s2⟩:=HZ.out k d4
      have s3:¬ 9223372036854775807<(T k).size+(D k).size:=by omega
      have s4:¬ 9223372036854775807<(T k).size+(D k).size+1:=by omega
      clear hv hV hb c1 c2 c3 s1 s2
      go_wp2_with (go_at_call 7;refine (HX.out _).mono ?_;rintro e w5 ⟨rfl,h5⟩;have B5:Hid (Below V.heap.size V w5):=Below.step BR.out h5;clear h5)
      go_roundw
      case rel=>exact ⟨k+1,by rw [HT.out.2 k],by go_num,by omega,V,HV.out,B5.out⟩
      case measure=>simp [intOf];omega
    · obtain rfl:k=c:=by omega
      have hblk:wr.heap[w3.heap.size]?=some (.cells #[.string (T k),.int .i64 0,.bool false,.bool false,.int .i64 0,.int .i64 (8 * n+1)] 34 (0,0)):=(hb.block _ (by rw [hV];simp)).trans (by rw [hV];exact halloc1 _ _)
      have x0:wr.cell? ⟨w3.heap.size,0,none⟩=some (.string (T k)):=(cell_of_row wr _ 0 _ _ _ hblk).trans rfl
      have x1:wr.cell? ⟨w3.heap.size,1,none⟩=some (.int .i64 0):=(cell_of_row wr _ 1 _ _ _ hblk).trans rfl
      have x4:wr.cell? ⟨w3.heap.size,4,none⟩=some (.int .i64 0):=(cell_of_row wr _ 4 _ _ _ hblk).trans rfl
      have x5:wr.cell? ⟨w3.heap.size,5,none⟩=some (.int .i64 (8 * n+1)):=(cell_of_row wr _ 5 _ _ _ hblk).trans rfl
      have BW:Hid (Below W.heap.size W wr):=B3.out.trans (((Below.refl w3.heap.size w3).alloc (Nat.le_refl _) _).trans (by have:=hb;rw [hV] at this;exact this.mono (by simp)) |>.mono (B3.out.size))
      have hend:decide ((k:Int)<L)=false∨decide ((k:Int)<L)=true∧decide ((k:Int)<n)=false:=by
        obtain ⟨c1,c2,c3⟩:=HC.out
        by_cases hx:(k:Int)<L
        · exact .inr ⟨by simpa using hx,by simp;omega⟩
        · exact .inl (by simpa using hx)
      clear hv hV hb hblk hk
      rcases hend with d1|⟨d1,d2⟩
      · have d3:¬ (k:Int)<L:=by simpa using d1
        go_wp2
        go_ret
        exact ⟨rfl,BW.out⟩
      · have d3:(k:Int)<L:=by simpa using d1
        have d4:¬ (k:Int)<n:=by simpa using d2
        go_wp2
        go_ret
        exact ⟨rfl,BW.out⟩
set_option maxHeartbeats 4000000 in
theorem lk_thr {n fuel L:Int} {c:Nat} {W:World} {P:World→Nat→Prop} {T D:Nat→ByteArray} (h1:1≤n∧n≤400) (h2:0≤fuel∧fuel≤4000) (hf:fuel≤8 * n) (hL:(fuel+6).tdiv 8=L) (hL2:0≤L∧L≤600) (hc:(c:Int)≤L∧(c:Int)≤n∧(L≤(c:Int)∨n≤(c:Int))) (hT0:T 0=⟨#[]⟩) (hT:∀ k,T (k+1)=T k++D k++⟨#[10]⟩) (hz:∀ k:Nat,(k:Int)<n→(T k).size≤100000∧(D k).size≤100)
    (HA:Hid (∀ w,Calls Tryz.prog 4 #[] w fun e w'=>e=.returned (.bool true)∧Below w.heap.size w w'))
    (H1:Hid (∀ w n3 t3,Below W.heap.size W w→w.heap[n3]?=some (.cells #[.int .i64 2,.int .i64 0,.string ⟨#[]⟩,.bool false,.string ⟨#[]⟩,.string ⟨#[]⟩,.string ⟨#[]⟩,.int .i64 39,.int .i64 0,.string ⟨#[]⟩,.bool false,.string ⟨#[]⟩,.string ⟨#[]⟩,.string ⟨#[]⟩,.int .i64 2,.int .i64 0,.string ⟨#[]⟩,.bool false,.string ⟨#[]⟩,.string ⟨#[]⟩,.string ⟨#[]⟩,.int .i64 1,.int .i64 1,.string ⟨#[]⟩,.bool false,.string ⟨#[]⟩,.string ⟨#[]⟩,.string ⟨#[]⟩,.int .i64 8,.int .i64 0,.string ⟨#[]⟩,.bool false,.string ⟨#[]⟩,.string ⟨#[]⟩,.string ⟨#[]⟩,.int .i64 20,.int .i64 0,.string ⟨#[]⟩,.bool false,.string ⟨#[]⟩,.string ⟨#[]⟩,.string ⟨#[]⟩,.int .i64 3,.int .i64 0,.string ⟨#[]⟩,.bool false,.string ⟨#[]⟩,.string ⟨#[]⟩,.string ⟨#[]⟩,.int .i64 13,.int .i64 0,.string ⟨#[]⟩,.bool false,.string ⟨#[]⟩,.string ⟨#[]⟩,.string ⟨#[]⟩,.int .i64 38,.int .i64 0,.string ⟨#[]⟩,.bool false,.string ⟨#[]⟩,.string ⟨#[]⟩,.string ⟨#[]⟩] t3 (0,0))→Calls Tryz.prog 5 #[.string ⟨#[40,73,41,86]⟩,.slice (some ⟨n3,0,none⟩) 9 9] w fun e w'=>∃ ge,e=.returned (.pointer (some ⟨ge,0,none⟩))∧Below w.heap.size w w'∧P w' ge))
    (HR:Hid (∀ w w2 ge g,P w ge→Below W.heap.size W w→Below w.heap.size w w2→w2.cell? ⟨g,0,none⟩=some (.int .i64 n)→Calls Tryz.prog 6 #[.pointer (some ⟨ge,0,none⟩),.agg #[.bool false,.string ⟨#[77,97,105,110]⟩,.string ⟨#[102]⟩,.string ⟨#[40,73,41,86]⟩],.slice (some ⟨g,0,none⟩) 1 1,.int .i64 fuel] w2 fun e w'=>e=.returned (.tuple #[.agg #[.string (T c),.int .i64 36,.bool false,.bool false,.int .i64 0,.int .i64 fuel],.int .i64 0])∧Below w2.heap.size w2 w'))
    (HD:Hid (∀ (k:Nat) w,(k:Int)≤n→Calls Tryz.prog 7 #[.int .i64 (n - (k:Int))] w fun e w'=>e=.returned (.string (D k))∧Below w.heap.size w w')) :
    Calls Tryz.prog 3 #[.int .i64 n,.int .i64 fuel] W fun e w'=>e=.returned (.bool true)∧Below W.heap.size W w':=by
  have z1:decide (n<1)=false:=by simp;omega
  have z2:decide (400<n)=false:=by simp;omega
  have z3:decide (fuel<0)=false:=by simp;omega
  have z4:decide (4000<fuel)=false:=by simp;omega
  have y1:¬ n<1:=by omega
  have y2:¬ 400<n:=by omega
  have y3:¬ fuel<0:=by omega
  have y4:¬ 4000<fuel:=by omega
  have e1:=IntWalk.wrap64_in (fuel+6) ⟨by omega,by omega⟩
  have e2:=IntWalk.wrap64_in L ⟨by omega,by omega⟩
  have e3:=IntWalk.wrap64_in (8 * n) ⟨by omega,by omega⟩
  have e4:=IntWalk.wrap64_in (8 * n+1) ⟨by omega,by omega⟩
  have z5:decide (8 * n<fuel)=false:=by simp;omega
  have y5:¬ 8 * n<fuel:=by omega
  have HC:Hid ((c:Int)≤L∧(c:Int)≤n∧(L≤(c:Int)∨n≤(c:Int))):=hc
  have HT:Hid (T 0=⟨#[]⟩∧∀ k,T (k+1)=T k++D k++⟨#[10]⟩):=⟨hT0,hT⟩
  have HN:Hid (1≤n∧n≤400):=h1
  have HZ:Hid (∀ k:Nat,(k:Int)<n→(T k).size≤100000∧(D k).size≤100):=hz
  clear hc hT0 hT hz
  go_enter Tryz.func3,Tryz.ntmps3
  go_wp2_with (first
    | (go_at_call 4;refine (HA.out _).mono ?_;rintro e w1 ⟨rfl,hb⟩;have B1:Hid (Below W.heap.size W w1):=hb;clear hb HA)
    | (go_at_call 5;refine (H1.out _ w1.heap.size _ (B1.out.alloc B1.out.size _) (halloc1 w1 _)).mono ?_;rintro e w2 ⟨ge,rfl,hb,hp⟩;have B2:Hid (Below W.heap.size W w2):=Below.step (B1.out.alloc B1.out.size _) hb;have HP:Hid (P w2 ge):=hp;clear hb hp H1)
    | (go_at_call 6;refine (HR.out w2 _ ge w2.heap.size HP.out B2.out ((Below.refl _ _).alloc (Nat.le_refl _) _) (by first|exact (cell_of_row _ _ 0 _ _ _ (halloc1 _ _)).trans rfl|simp)).mono ?_;rintro e w3 ⟨rfl,hb⟩;have B3:Hid (Below W.heap.size W w3):=Below.step (B2.out.alloc B2.out.size _) hb;clear hb HR))
  go_loopw [8,10] (fun ov kv wr=>∃ k:Nat,ov=.string (T k)∧kv=.int .i64 k∧k≤c∧Hid (∃ V:World,V=w3.alloc (.cells #[.string (T c),.int .i64 36,.bool false,.bool false,.int .i64 0,.int .i64 fuel] 34)∧Below V.heap.size V wr)) (fun _ kv _=>c - (intOf kv).toNat)
  case atStart=>exact ⟨0,by rw [HT.out.1],rfl,Nat.zero_le _,_,rfl,Below.refl _ _⟩
  case round =>
    obtain ⟨k,rfl,rfl,hk,hv⟩:=hrel
    obtain ⟨V,hV,hb⟩:=hv.out
    have BR:Hid (Below V.heap.size V wr):=hb
    have HV:Hid (V=w3.alloc (.cells #[.string (T c),.int .i64 36,.bool false,.bool false,.int .i64 0,.int .i64 fuel] 34)):=hV
    by_cases hkc:k<c
    · obtain ⟨c1,c2,c3⟩:=HC.out
      have d1:decide ((k:Int)<L)=true:=by simp;omega
      have d2:decide ((k:Int)<n)=true:=by simp;omega
      have d3:(k:Int)<L:=by omega
      have d4:(k:Int)<n:=by omega
      have d5:=IntWalk.wrap64_in (n - (k:Int)) ⟨by omega,by omega⟩
      have HX:Hid (∀ w,Calls Tryz.prog 7 #[.int .i64 (n - (k:Int))] w fun e w'=>e=.returned (.string (D k))∧Below w.heap.size w w'):=fun w=>HD.out k w (by omega)
      obtain ⟨s1,s2⟩:=HZ.out k d4
      have s3:¬ 9223372036854775807<(T k).size+(D k).size:=by omega
      have s4:¬ 9223372036854775807<(T k).size+(D k).size+1:=by omega
      clear hv hV hb c1 c2 c3 s1 s2
      go_wp2_with (go_at_call 7;refine (HX.out _).mono ?_;rintro e w5 ⟨rfl,h5⟩;have B5:Hid (Below V.heap.size V w5):=Below.step BR.out h5;clear h5)
      go_roundw
      case rel=>exact ⟨k+1,by rw [HT.out.2 k],by go_num,by omega,V,HV.out,B5.out⟩
      case measure=>simp [intOf];omega
    · obtain rfl:k=c:=by omega
      have hblk:wr.heap[w3.heap.size]?=some (.cells #[.string (T k),.int .i64 36,.bool false,.bool false,.int .i64 0,.int .i64 fuel] 34 (0,0)):=(hb.block _ (by rw [hV];simp)).trans (by rw [hV];exact halloc1 _ _)
      have x0:wr.cell? ⟨w3.heap.size,0,none⟩=some (.string (T k)):=(cell_of_row wr _ 0 _ _ _ hblk).trans rfl
      have x1:wr.cell? ⟨w3.heap.size,1,none⟩=some (.int .i64 36):=(cell_of_row wr _ 1 _ _ _ hblk).trans rfl
      have x4:wr.cell? ⟨w3.heap.size,4,none⟩=some (.int .i64 0):=(cell_of_row wr _ 4 _ _ _ hblk).trans rfl
      have x5:wr.cell? ⟨w3.heap.size,5,none⟩=some (.int .i64 fuel):=(cell_of_row wr _ 5 _ _ _ hblk).trans rfl
      have BW:Hid (Below W.heap.size W wr):=B3.out.trans (((Below.refl w3.heap.size w3).alloc (Nat.le_refl _) _).trans (by have:=hb;rw [hV] at this;exact this.mono (by simp)) |>.mono (B3.out.size))
      have hend:decide ((k:Int)<L)=false∨decide ((k:Int)<L)=true∧decide ((k:Int)<n)=false:=by
        obtain ⟨c1,c2,c3⟩:=HC.out
        by_cases hx:(k:Int)<L
        · exact .inr ⟨by simpa using hx,by simp;omega⟩
        · exact .inl (by simpa using hx)
      clear hv hV hb hblk hk
      rcases hend with d1|⟨d1,d2⟩
      · have d3:¬ (k:Int)<L:=by simpa using d1
        go_wp2
        go_ret
        exact ⟨rfl,BW.out⟩
      · have d3:(k:Int)<L:=by simpa using d1
        have d4:¬ (k:Int)<n:=by simpa using d2
        go_wp2
        go_ret
        exact ⟨rfl,BW.out⟩
theorem lk_o0 {n fuel:Int} {W:World} (h:n<1) (HA:Hid (∀ w,Calls Tryz.prog 4 #[] w fun e w'=>e=.returned (.bool true)∧Below w.heap.size w w')) :
    Calls Tryz.prog 3 #[.int .i64 n,.int .i64 fuel] W fun e w'=>e=.returned (.bool true)∧Below W.heap.size W w':=by
  have z0:decide (n<1)=true:=by simp;omega
  have y0:n<1:=by omega
  go_enter Tryz.func3,Tryz.ntmps3
  go_wp2_with (go_at_call 4;refine (HA.out _).mono ?_;rintro e w1 ⟨rfl,hb⟩;have B1:Hid (Below W.heap.size W w1):=hb;clear hb HA)
  go_ret
  exact ⟨rfl,B1.out⟩
theorem lk_o1 {n fuel:Int} {W:World} (h:¬ n<1∧400<n) (HA:Hid (∀ w,Calls Tryz.prog 4 #[] w fun e w'=>e=.returned (.bool true)∧Below w.heap.size w w')) :
    Calls Tryz.prog 3 #[.int .i64 n,.int .i64 fuel] W fun e w'=>e=.returned (.bool true)∧Below W.heap.size W w':=by
  have z0:decide (n<1)=false:=by simp;omega
  have y0:¬ n<1:=by omega
  have z1:decide (400<n)=true:=by simp;omega
  have y1:400<n:=by omega
  go_enter Tryz.func3,Tryz.ntmps3
  go_wp2_with (go_at_call 4;refine (HA.out _).mono ?_;rintro e w1 ⟨rfl,hb⟩;have B1:Hid (Below W.heap.size W w1):=hb;clear hb HA)
  go_ret
  exact ⟨rfl,B1.out⟩
theorem lk_o2 {n fuel:Int} {W:World} (h:¬ n<1∧¬ 400<n∧fuel<0) (HA:Hid (∀ w,Calls Tryz.prog 4 #[] w fun e w'=>e=.returned (.bool true)∧Below w.heap.size w w')) :
    Calls Tryz.prog 3 #[.int .i64 n,.int .i64 fuel] W fun e w'=>e=.returned (.bool true)∧Below W.heap.size W w':=by
  have z0:decide (n<1)=false:=by simp;omega
  have y0:¬ n<1:=by omega
  have z1:decide (400<n)=false:=by simp;omega
  have y1:¬ 400<n:=by omega
  have z2:decide (fuel<0)=true:=by simp;omega
  have y2:fuel<0:=by omega
  go_enter Tryz.func3,Tryz.ntmps3
  go_wp2_with (go_at_call 4;refine (HA.out _).mono ?_;rintro e w1 ⟨rfl,hb⟩;have B1:Hid (Below W.heap.size W w1):=hb;clear hb HA)
  go_ret
  exact ⟨rfl,B1.out⟩
theorem lk_o3 {n fuel:Int} {W:World} (h:¬ n<1∧¬ 400<n∧¬ fuel<0∧4000<fuel) (HA:Hid (∀ w,Calls Tryz.prog 4 #[] w fun e w'=>e=.returned (.bool true)∧Below w.heap.size w w')) :
    Calls Tryz.prog 3 #[.int .i64 n,.int .i64 fuel] W fun e w'=>e=.returned (.bool true)∧Below W.heap.size W w':=by
  have z0:decide (n<1)=false:=by simp;omega
  have y0:¬ n<1:=by omega
  have z1:decide (400<n)=false:=by simp;omega
  have y1:¬ 400<n:=by omega
  have z2:decide (fuel<0)=false:=by simp;omega
  have y2:¬ fuel<0:=by omega
  have z3:decide (4000<fuel)=true:=by simp;omega
  have y3:4000<fuel:=by omega
  go_enter Tryz.func3,Tryz.ntmps3
  go_wp2_with (go_at_call 4;refine (HA.out _).mono ?_;rintro e w1 ⟨rfl,hb⟩;have B1:Hid (Below W.heap.size W w1):=hb;clear hb HA)
  go_ret
  exact ⟨rfl,B1.out⟩
set_option maxHeartbeats 1000000 in
theorem one_w {Q:World→Value→Prop} {P:World→Nat→Prop} {W:World} {n3 t3 k:Nat} {A:Array Value} {ds:ByteArray} (HC:Hid (W.heap[n3]?=some (.cells A t3 (0,0))))
    (HQ:Hid (∀ (w:World) (n1 n2 n3 t1 t2 t3:Nat),w.heap[n1]?=some (.cells #[.string ⟨#[77,97,105,110]⟩,.string ⟨#[79,98,106,101,99,116]⟩,.slice none 0 0,.int .i64 1,.int .i64 0,.slice (some ⟨n2,0,none⟩) 1 1] t1 (0,0))→w.heap[n2]?=some (.cells #[.string ⟨#[102]⟩,.string ds,.int .i64 9,.int .i64 4,.int .i64 6,.slice (some ⟨n3,0,none⟩) k k] t2 (0,0))→w.heap[n3]?=some (.cells A t3 (0,0))→Q w (.slice (some ⟨n1,0,none⟩) 1 1)))
    (HSt:Hid (∀ w v,Q w v→Calls Tryz.prog 8 #[v,.int .i64 1] w fun e w'=>∃ b ge,e=.returned (.tuple #[.pointer (some ⟨b,0,none⟩),.pointer (some ⟨ge,0,none⟩),.int .i64 0])∧Below w.heap.size w w'∧P w' ge)) :
    Calls Tryz.prog 5 #[.string ds,.slice (some ⟨n3,0,none⟩) k k] W fun e w'=>∃ ge,e=.returned (.pointer (some ⟨ge,0,none⟩))∧Below W.heap.size W w'∧P w' ge:=by
  go_enter Tryz.func5,Tryz.ntmps5
  go_wp2_with (go_at_call 8;refine (HSt.out _ _ (HQ.out _ (W.heap.size+2) W.heap.size n3 _ _ _ (haA _ _ (by simp)) (hkA (hkA (haA W _ rfl))) (hkA (hkA (hkA HC.out))))).mono ?_;rintro e w1 ⟨b,ge,rfl,hb,hp⟩;have B1:Hid (Below W.heap.size W w1):=Below.step (by repeat (first|exact Below.refl _ _|refine Below.setCell ?_ (by simp;try omega) _|refine Below.alloc ?_ (by simp;try omega) _|refine Below.drew ?_)) hb;have HX:Hid (P w1 ge):=hp;clear hb hp HSt)
  go_ret
  exact ⟨ge,rfl,B1.out,HX.out⟩
end Go.Proofs.YtlohdfpinmdljaaGreatDoor.Sk
