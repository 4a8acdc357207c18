import Derived.Test.YtenpnkkkjjdccaaGreatSiT
import Derived.Test.YtenpnkkkjjdccaaGreatSiG
import Derived.Test.YtenpnkkkjjdccaaGreatSiW
set_option maxRecDepth 100000
namespace Go.Proofs.YtenpnkkkjjdccaaGreat
open Go.RowKit Go.Maps
structure Bs (ps:List Plc) (b lb:Nat) (w2 W:World):Prop where
  wat:WAt b ps w2
  bel:Below w2.heap.size w2 W
  lnk:W.cell? ⟨lb,0,none⟩=some (.pointer (some ⟨b,0,none⟩))
theorem Bs.at {ps:List Plc} {b lb:Nat} {w2 W w:World} (h:Bs ps b lb w2 W) (hb:Below W.heap.size W w):WAt b ps w:=h.wat.below (bstep h.bel hb)
theorem Bs.tch {ps:List Plc} {b lb:Nat} {w2 W w:World} {S:Nat→Prop} (h:Bs ps b lb w2 W) (ht:Tch S W w) (hs:∀ k,S k→w2.heap.size≤k∧k≠lb):Bs ps b lb w2 w :=
  ⟨h.wat,h.bel.trans (ht.below h.bel.size (fun k hk=>(hs k hk).1)),(World.cell?_of_block (a:=⟨lb,0,none⟩) (ht.blk lb (World.block_lt_of_cell? _ _ h.lnk) (fun x=>(hs lb x).2 rfl))).trans h.lnk⟩
theorem lnk_no {ps:List Plc} (hi:WI ps) {b lb sb:Nat} {w2 W:World} (hB:Bs ps b lb w2 W) (d:Int) (nm n ds:ByteArray) (pc:Nat) (hc:nm.size≤maxLen) (hn:n.size≤maxLen) (hd:ds.size≤maxLen) (hz:w2.heap.size≤sb) (hne:sb≠lb) (hS:SiAt W sb lb d nm n ds pc 0 none 0 0 0) (hE:¬ (metR ps d false nm n ds).2=0) :
    Calls Tryz.prog 12 #[.pointer (some ⟨sb,0,none⟩)] W fun e w'=>e=.returned (.int .i64 (metR ps d false nm n ds).2)∧Tch (fun k=>k=sb) W w':=by
  have HR:Hid (Calls Tryz.prog 57 #[.pointer (some ⟨sb,0,none⟩)] W fun e w'=>e=.returned (.tuple #[.pointer none,.int .i64 (metR ps d false nm n ds).2])∧Tch (fun k=>k=sb) W w'):=by
    refine rsd_no sb lb d nm n ds pc 0 _ hE W hS (fun w hw ht=>?_)
    have hBw:=hB.tch ht (fun k e=>⟨by rw [e];exact hz,by rw [e];exact hne⟩)
    refine (res_no sb lb b d nm n ds pc 0 none 1 0 1 (metR ps d false nm n ds).1.1 (metR ps d false nm n ds).1.2 _ hE w hw hBw.lnk (fun w' hb'=>met_c (hBw.at hb') hi d false nm n ds hc hn hd)).mono ?_
    rintro e w' ⟨h1,h2⟩
    exact ⟨h1,hw.keep (h2.block _ (lt_of_blk hw)),(Tch.refl _ w).bel h2⟩
  refine link_c sb lb _ (fun w'=>Tch (fun k=>k=sb) W w') W hS.cells.1.1 ?_
  exact (lkd_no sb _ hE _ W hS.cells.1.2.2 HR).mono fun e w' ⟨a,b⟩=>⟨⟨_,a⟩,b⟩
def Rsd (W w:World) (sb lb:Nat) (d:Int) (nm n ds:ByteArray) (pc:Nat) (m:Int×Int) (mf:Bool) (dm:Int) (t:ByteArray) (r:(Int×Int)×Int):Prop:=∃ tb,W.heap.size≤tb∧SiAt w sb lb d nm n ds pc 0 (some ⟨tb,0,none⟩) 0 1 0∧TgAt w tb m.1 m.2 mf dm t r.1.1 r.1.2 r.2
theorem lnk_yes {ps:List Plc} (hi:WI ps) {b lb sb:Nat} {w2 W:World} (hB:Bs ps b lb w2 W) (d:Int) (nm n ds:ByteArray) (pc:Nat) (hc:nm.size≤maxLen) (hn:n.size≤maxLen) (hd:ds.size≤maxLen) (hz:w2.heap.size≤sb) (hne:sb≠lb) (hS:SiAt W sb lb d nm n ds pc 0 none 0 0 0) {m:Int×Int} (hm:metR ps d false nm n ds=(m,0)) {x:HM} (hx:methI ps m.1 m.2=some x) (ht:prfT nm.data.toList=(0,nm.data.toList)) :
    Calls Tryz.prog 12 #[.pointer (some ⟨sb,0,none⟩)] W fun e w'=>e=.returned (.int .i64 (if stB x.fl then 23 else 0))∧Rsd W w' sb lb d nm n ds pc m (stB x.fl) 0 nm (spcI ps d false nm n ds m)∧Tch (fun k=>k=sb) W w':=by
  have HR:Hid (Calls Tryz.prog 57 #[.pointer (some ⟨sb,0,none⟩)] W fun e w'=>∃ tb,e=.returned (.tuple #[.pointer (some ⟨tb,0,none⟩),.int .i64 0])∧W.heap.size≤tb∧SiAt w' sb lb d nm n ds pc 0 (some ⟨tb,0,none⟩) 0 1 0∧TgAt w' tb m.1 m.2 (stB x.fl) 0 nm (spcI ps d false nm n ds m).1.1 (spcI ps d false nm n ds m).1.2 (spcI ps d false nm n ds m).2∧Tch (fun k=>k=sb) W w'):=by
    refine rsd_yes sb lb d nm n ds pc 0 m.1 m.2 (stB x.fl) 0 nm _ _ _ W hS (fun w hw htc=>?_)
    have hBw:=hB.tch htc (fun k e=>⟨by rw [e];exact hz,by rw [e];exact hne⟩)
    refine res_yes sb lb b d nm n ds pc 0 none 1 0 1 m.1 m.2 0 nm _ _ _ (prfE nm.data.toList) x.nm x.ds x.fl x.lo x.st (stB x.fl) rfl w hw hBw.lnk (fun w' hb'=>?_) (fun w'=>?_) (fun w' hb'=>?_) (fun w' hb'=>?_)
    · have q:=met_c (hBw.at hb') hi d false nm n ds hc hn hd
      rw [hm] at q
      exact q
    · have q:=parseRef_any nm hc w'
      rw [ht] at q
      exact q
    · have q:=mth_e (hBw.at hb') hi.pb m.1 m.2
      rw [hx] at q
      exact q
    · exact spc_c (hBw.at hb') hi d false nm n ds m.1 m.2 hc hn hd
  have HK:=lkd_yes sb (stB x.fl) (fun tb w'=>W.heap.size≤tb∧SiAt w' sb lb d nm n ds pc 0 (some ⟨tb,0,none⟩) 0 1 0∧TgAt w' tb m.1 m.2 (stB x.fl) 0 nm (spcI ps d false nm n ds m).1.1 (spcI ps d false nm n ds m).1.2 (spcI ps d false nm n ds m).2∧Tch (fun k=>k=sb) W w') W hS.cells.1.2.2 (fun tb w' h=>h.2.2.1.cells.1.2.2.1) HR
  refine link_c sb lb _ (fun w'=>Rsd W w' sb lb d nm n ds pc m (stB x.fl) 0 nm (spcI ps d false nm n ds m)∧Tch (fun k=>k=sb) W w') W hS.cells.1.1 ?_
  refine HK.mono ?_
  rintro e w' ⟨tb,h1,h2,h3,h4,h5⟩
  refine ⟨?_,⟨tb,h2,h3,h4⟩,h5⟩
  cases hs:stB x.fl
  · rw [hs] at h1;exact ⟨_,h1⟩
  · rw [hs] at h1;exact ⟨_,h1⟩
theorem call_any {ps:List Plc} (hi:WI ps) {b lb sb pc qc tb:Nat} {w2 W:World} (hB:Bs ps b lb w2 W) (d:Nat) (nm n ds:ByteArray) (hz:w2.heap.size≤sb∧w2.heap.size≤pc∧w2.heap.size≤qc) (hne:sb≠lb∧pc≠lb∧qc≠lb) (m:Int×Int) (r:(Int×Int)×Int) (hS:SiAt W sb lb (d:Int) nm n ds pc 0 (some ⟨tb,0,none⟩) 0 1 0) (hT:TgAt W tb m.1 m.2 false 0 nm r.1.1 r.1.2 r.2) (hE:E1 W pc qc 0 0 0)
    {nx:ByteArray} {k:Nat} (hx:NmK ps d nx) (hxs:nx.size≤maxLen) (hk:NmK ps k nm) (hks:nm.size≤maxLen) (hf:ifcI ps (d:Int)=false) (he:extB (ps.map nd) d k=true) :
    Calls Tryz.prog 13 #[.pointer (some ⟨sb,0,none⟩),.agg #[.int .i64 0,.string nx]] W fun e w'=>e=.returned (idE r)∧Tch (S3 sb pc qc) W w':=by
  have hsl:=lt_of_blk hS
  have htl:=lt_of_blk hT
  obtain ⟨hpl,hql⟩:=hE.lt
  have hsub:=NmK.sub hx hk he
  refine scall_c sb lb pc qc nx r.1.1 r.1.2 r.2 W hS.cells.1.1 hS.cells.2.2.1.1 hS.cells.2.2.1.2.1 hpl hql (fun w hb=>?_)
  have hBw:Bs ps b lb w2 w:=⟨hB.wat,bstep hB.bel hb,(hb.cell (p:=⟨lb,0,none⟩) (World.block_lt_of_cell? _ _ hB.lnk)).trans hB.lnk⟩
  have Sw:SiAt w sb lb (d:Int) nm n ds pc 0 (some ⟨tb,0,none⟩) 0 1 0:=hS.keep (hb.block _ hsl)
  have Tw:TgAt w tb m.1 m.2 false 0 nm r.1.1 r.1.2 r.2:=(hb.block _ htl).trans hT
  have Ew:E1 w pc qc 0 0 0:=hE.bel hb
  refine ans_c sb pc qc tb nx (d:Int) r.1.1 r.1.2 r.2 w Sw.cells.1.2.2 Ew.lt.1 Ew.lt.2 (fun u hu=>?_) (fun u hu=>?_) (fun u hu=>?_)
  · have Su:SiAt u sb lb (d:Int) nm n ds pc 0 (some ⟨tb,0,none⟩) 0 1 0:=Sw.keep (hu.block _ (lt_of_blk Sw))
    refine hold_c sb lb b nx (d:Int) u Su.cells.1.1 Su.cells.1.2.2 ((hu.cell (p:=⟨lb,0,none⟩) (World.block_lt_of_cell? _ _ hBw.lnk)).trans hBw.lnk) (fun v hv=>?_) (fun v hv=>?_)
    · have q:=hld_c (hBw.at (bstep hu hv)) 0 nx hxs
      rw [hx.hld] at q
      exact q
    · have q:=isIface_c (hBw.at (bstep hu hv)) (d:Int)
      rw [hf] at q
      exact q
  · have Su:SiAt u sb lb (d:Int) nm n ds pc 0 (some ⟨tb,0,none⟩) 0 1 0:=Sw.keep (hu.block _ (lt_of_blk Sw))
    have Tu:TgAt u tb m.1 m.2 false 0 nm r.1.1 r.1.2 r.2:=(hu.block _ (lt_of_blk Tw)).trans Tw
    refine (lkd_yes sb false (fun t' u'=>t'=tb∧TgAt u' tb m.1 m.2 false 0 nm r.1.1 r.1.2 r.2∧Below u.heap.size u u') u Su.cells.1.2.2 (fun t' u' h=>by rw [h.1];exact h.2.1.cells.1.2.2.1) ?_).mono ?_
    · refine (rsd_again sb lb (d:Int) nm n ds pc 0 tb m.1 m.2 false 0 nm r.1.1 r.1.2 r.2 u Su Tu).mono ?_
      rintro e w' ⟨h1,h2⟩
      exact ⟨tb,h1,rfl,(h2.block _ (lt_of_blk Tu)).trans Tu,h2⟩
    · rintro e w' ⟨t',h1,rfl,_,h3⟩
      exact ⟨h1,h3⟩
  · have Su:SiAt u sb lb (d:Int) nm n ds pc 0 (some ⟨tb,0,none⟩) 0 1 0:=Sw.keep (hu.block _ (lt_of_blk Sw))
    have Tu:TgAt u tb m.1 m.2 false 0 nm r.1.1 r.1.2 r.2:=(hu.block _ (lt_of_blk Tw)).trans Tw
    have hBu:Bs ps b lb w2 u:=⟨hB.wat,bstep hBw.bel hu,(hu.cell (p:=⟨lb,0,none⟩) (World.block_lt_of_cell? _ _ hBw.lnk)).trans hBw.lnk⟩
    refine rec_c sb lb (d:Int) nm n ds pc qc 0 tb m.1 m.2 0 nm r.1.1 r.1.2 r.2 nx (d:Int) ((ttyR ps 0 nx 0 nm).1.2:Int) u Su Tu (Ew.bel hu) (fun v hv=>?_)
    have hBv:=hBu.tch hv (fun k x=>by rcases x with rfl|rfl|rfl;exact ⟨hz.2.1,hne.2.1⟩;exact ⟨hz.2.2,hne.2.2⟩;exact ⟨hz.1,hne.1⟩)
    refine lbel_c lb b 0 0 nx nm true _ 0 v hBv.lnk (fun y hy=>?_)
    have q:=tty_c (hBv.at hy) hi 0 nx 0 nm hxs hks
    rw [hsub.1,hsub.2] at q
    exact q
structure KT (w:World) (a b c:Nat) (na nb nc:ByteArray):Prop where
  ca:w.cell? ⟨a,0,none⟩=some (.string na)
  cb:w.cell? ⟨b,0,none⟩=some (.string nb)
  cc:w.cell? ⟨c,0,none⟩=some (.string nc)
theorem KT.lt {w:World} {a b c:Nat} {na nb nc:ByteArray} (h:KT w a b c na nb nc):a<w.heap.size∧b<w.heap.size∧c<w.heap.size:=⟨World.block_lt_of_cell? _ _ h.ca,World.block_lt_of_cell? _ _ h.cb,World.block_lt_of_cell? _ _ h.cc⟩
theorem KT.bel {w w':World} {a b c:Nat} {na nb nc:ByteArray} (h:KT w a b c na nb nc) (hb:Below w.heap.size w w'):KT w' a b c na nb nc:=⟨(hb.cell (p:=⟨a,0,none⟩) h.lt.1).trans h.ca,(hb.cell (p:=⟨b,0,none⟩) h.lt.2.1).trans h.cb,(hb.cell (p:=⟨c,0,none⟩) h.lt.2.2).trans h.cc⟩
theorem KT.tch {w w':World} {a b c:Nat} {na nb nc:ByteArray} {S:Nat→Prop} (h:KT w a b c na nb nc) (ht:Tch S w w') (h1:¬ S a) (h2:¬ S b) (h3:¬ S c):KT w' a b c na nb nc:=⟨(World.cell?_of_block (a:=⟨a,0,none⟩) (ht.blk a h.lt.1 h1)).trans h.ca,(World.cell?_of_block (a:=⟨b,0,none⟩) (ht.blk b h.lt.2.1 h2)).trans h.cb,(World.cell?_of_block (a:=⟨c,0,none⟩) (ht.blk c h.lt.2.2 h3)).trans h.cc⟩
theorem Bs.bl {ps:List Plc} {b lb:Nat} {w2 W w:World} (h:Bs ps b lb w2 W) (hb:Below W.heap.size W w):Bs ps b lb w2 w:=⟨h.wat,bstep h.bel hb,(hb.cell (p:=⟨lb,0,none⟩) (World.block_lt_of_cell? _ _ h.lnk)).trans h.lnk⟩
theorem E1.tch {w w':World} {p q:Nat} {h m r:Int} {S:Nat→Prop} (H:E1 w p q h m r) (ht:Tch S w w') (h1:¬ S p) (h2:¬ S q):E1 w' p q h m r:=H.keep (ht.blk p H.lt.1 h1) (ht.blk q H.lt.2 h2)
theorem ne_se {w:World} {sb lb:Nat} {d:Int} {c n ds:ByteArray} {pc:Nat} {rd:Int} {tp:Option Addr} {ms od om:Int} {p q:Nat} {h m r:Int} (hS:SiAt w sb lb d c n ds pc rd tp ms od om) (hE:E1 w p q h m r):p≠sb∧q≠sb:=by
  refine ⟨?_,?_⟩
  · rintro rfl;have:=hE.hp;rw [hS] at this;cases this
  · rintro rfl;have:=hE.hq;rw [hS] at this;cases this
set_option maxHeartbeats 8000000 in
theorem wsA (ps:List Plc) (W:World) (v:Value) (d k1 k2:Int) (n ds:ByteArray) (fN:Int→ByteArray) (fF fE:Int→Int) (fI:Int→Bool) (fX:Int→Int→Bool)
    (HB:Hid (∀ w:World,Below W.heap.size W w→Calls Tryz.prog 6 #[v] w fun e w'=>(∃ b,e=.returned (.pointer (some ⟨b,0,none⟩))∧WAt b ps w')∧Below w.heap.size w w'))
    (HCl:Hid (∀ (x:Int) b w,WAt b ps w→Calls Tryz.prog 7 #[.pointer (some ⟨b,0,none⟩),.int .i64 x] w fun e w'=>(∃ su a1 n1 c1 ld a2 n2 c2,e=.returned (.tuple #[.agg #[.string (fN x),.string su,.slice a1 n1 c1,.int .i64 (fF x),.int .i64 ld,.slice a2 n2 c2],.int .i64 (fE x)]))∧Below w.heap.size w w'))
    (HI:Hid (∀ (x:Int) b w,WAt b ps w→Calls Tryz.prog 8 #[.pointer (some ⟨b,0,none⟩),.int .i64 x] w fun e w'=>e=.returned (.bool (fI x))∧Below w.heap.size w w'))
    (HX:Hid (∀ (x y:Int) b w,WAt b ps w→Calls Tryz.prog 9 #[.pointer (some ⟨b,0,none⟩),.int .i64 x,.int .i64 y] w fun e w'=>e=.returned (.bool (fX x y))∧Below w.heap.size w w'))
    (h0:fE d=0) (h1:fE k1=0) (h2:fE k2=0) (h3:(bits .and .i64 (fF d) 32 == 0)=false) (h4:¬ k1=d) (h5:¬ k2=d) (h6:(n.toList == [60,105,110,105,116,62])=false)
    (c0:fI d=false) (c1:fI k1=false) (c2:fI k2=false) (c3:fX d k1=true) (c4:fX d k2=true)
    (HN1:Hid (∀ b lb w2 w,Bs ps b lb w2 w→Calls Tryz.prog 11 #[.pointer (some ⟨lb,0,none⟩),.int .i64 d,.int .i64 3,.agg #[.bool false,.string (fN k1),.string n,.string ds],.int .i64 1] w fun e w'=>e=.returned (.tuple #[.pointer none,.int .i64 1])∧Below w.heap.size w w'))
    (HN2:Hid (∀ b lb w2 w,Bs ps b lb w2 w→Calls Tryz.prog 11 #[.pointer (some ⟨lb,0,none⟩),.int .i64 d,.int .i64 3,.agg #[.bool false,.string (fN k2),.string n,.string ds],.int .i64 1] w fun e w'=>e=.returned (.tuple #[.pointer none,.int .i64 1])∧Below w.heap.size w w')) :
    Calls Tryz.prog 3 #[v,.int .i64 d,.int .i64 k1,.int .i64 k2,.string n,.string ds] W fun e w'=>e=.returned (.bool true)∧Below W.heap.size W w':=by
  have HA:Hid (∀ w:World,Calls Tryz.prog 5 #[] w fun e w'=>e=.returned (.bool true)∧Below w.heap.size w w'):=awakeT_c
  have B0:Hid (Below W.heap.size W W):=Below.refl _ _
  have HC1:Hid (∀ b w,WAt b ps w→Calls Tryz.prog 7 #[.pointer (some ⟨b,0,none⟩),.int .i64 d] w fun e w'=>(∃ su a1 n1 c1 ld a2 n2 c2,e=.returned (.tuple #[.agg #[.string (fN d),.string su,.slice a1 n1 c1,.int .i64 (fF d),.int .i64 ld,.slice a2 n2 c2],.int .i64 (fE d)]))∧Below w.heap.size w w'):=HCl.out d
  have HC2:Hid (∀ b w,WAt b ps w→Calls Tryz.prog 7 #[.pointer (some ⟨b,0,none⟩),.int .i64 k1] w fun e w'=>(∃ su a1 n1 c1 ld a2 n2 c2,e=.returned (.tuple #[.agg #[.string (fN k1),.string su,.slice a1 n1 c1,.int .i64 (fF k1),.int .i64 ld,.slice a2 n2 c2],.int .i64 (fE k1)]))∧Below w.heap.size w w'):=HCl.out k1
  have HC3:Hid (∀ b w,WAt b ps w→Calls Tryz.prog 7 #[.pointer (some ⟨b,0,none⟩),.int .i64 k2] w fun e w'=>(∃ su a1 n1 c1 ld a2 n2 c2,e=.returned (.tuple #[.agg #[.string (fN k2),.string su,.slice a1 n1 c1,.int .i64 (fF k2),.int .i64 ld,.slice a2 n2 c2],.int .i64 (fE k2)]))∧Below w.heap.size w w'):=HCl.out k2
  clear HCl
  have HI1:Hid (∀ b w,WAt b ps w→Calls Tryz.prog 8 #[.pointer (some ⟨b,0,none⟩),.int .i64 d] w fun e w'=>e=.returned (.bool (fI d))∧Below w.heap.size w w'):=HI.out d
  have HI2:Hid (∀ b w,WAt b ps w→Calls Tryz.prog 8 #[.pointer (some ⟨b,0,none⟩),.int .i64 k1] w fun e w'=>e=.returned (.bool (fI k1))∧Below w.heap.size w w'):=HI.out k1
  have HI3:Hid (∀ b w,WAt b ps w→Calls Tryz.prog 8 #[.pointer (some ⟨b,0,none⟩),.int .i64 k2] w fun e w'=>e=.returned (.bool (fI k2))∧Below w.heap.size w w'):=HI.out k2
  have HX1:Hid (∀ b w,WAt b ps w→Calls Tryz.prog 9 #[.pointer (some ⟨b,0,none⟩),.int .i64 d,.int .i64 k1] w fun e w'=>e=.returned (.bool (fX d k1))∧Below w.heap.size w w'):=HX.out d k1
  have HX2:Hid (∀ b w,WAt b ps w→Calls Tryz.prog 9 #[.pointer (some ⟨b,0,none⟩),.int .i64 d,.int .i64 k2] w fun e w'=>e=.returned (.bool (fX d k2))∧Below w.heap.size w w'):=HX.out d k2
  clear HI HX
  rw [c0] at HI1
  rw [c1] at HI2
  rw [c2] at HI3
  rw [c3] at HX1
  rw [c4] at HX2
  have g0:(fE d == 0)=true:=by simpa using h0
  have g1:(fE k1 == 0)=true:=by simpa using h1
  have g2:(fE k2 == 0)=true:=by simpa using h2
  have g4:(k1 == d)=false:=by simpa using h4
  have g5:(k2 == d)=false:=by simpa using h5
  go_enter Tryz.func3,Tryz.ntmps3
  go_wp2_with (first
    | (go_at_call 5;refine (HA.out _).mono ?_;rintro e w1 ⟨rfl,hb⟩;have B1:Hid (Below W.heap.size W w1):=hb;clear hb HA)
    | (go_at_call 6;refine (HB.out _ B1.out).mono ?_;rintro e w2 ⟨⟨b,rfl,hw⟩,hb⟩;have H2:Hid (WAt b ps w2):=hw;have B2:Hid (Below W.heap.size W w2):=bstep B1.out hb;clear hw hb HB B1)
    | (go_at_call 7;refine (HC1.out _ _ H2.out).mono ?_;rintro e w3 ⟨⟨su3,a3,n3,c3,l3,p3,q3,t3,rfl⟩,hb⟩;have B3:Hid (Below w2.heap.size w2 w3):=hb;clear hb HC1)
    | (go_at_call 7;refine (HC2.out _ _ (H2.out.below (B3.out.alloc B3.out.size _))).mono ?_;rintro e w4 ⟨⟨su4,a4,n4,c4,l4,p4,q4,t4,rfl⟩,hb⟩;have D4:Hid (w4.heap[w3.heap.size]?=some (.cells #[.string (fN d),.string su3,.slice a3 n3 c3,.int .i64 (fF d),.int .i64 l3,.slice p3 q3 t3] 29 (0,0))):=(hb.block w3.heap.size (by simp)).trans (halloc1 _ _);have B4:Hid (Below w2.heap.size w2 w4):=bstep (B3.out.alloc B3.out.size _) hb;clear hb HC2 B3)
    | (go_at_call 7;refine (HC3.out _ _ (H2.out.below (B4.out.alloc B4.out.size _))).mono ?_;rintro e w5 ⟨⟨su5,a5,n5,c5,l5,p5,q5,t5,rfl⟩,hb⟩;have D5:Hid (w5.heap[w3.heap.size]?=some (.cells #[.string (fN d),.string su3,.slice a3 n3 c3,.int .i64 (fF d),.int .i64 l3,.slice p3 q3 t3] 29 (0,0))∧w5.heap[w4.heap.size]?=some (.cells #[.string (fN k1),.string su4,.slice a4 n4 c4,.int .i64 (fF k1),.int .i64 l4,.slice p4 q4 t4] 29 (0,0))):=⟨(hb.block w3.heap.size (by have:=lt_of_blk D4.out;simp;omega)).trans (hkeep D4.out),(hb.block w4.heap.size (by simp)).trans (halloc1 _ _)⟩;have f5:w5.cell? ⟨w3.heap.size,3,none⟩=some (.int .i64 (fF d)):=(cell_of_row w5 _ 3 _ _ _ D5.out.1).trans rfl;have z5:w3.heap.size<w5.heap.size:=lt_of_blk D5.out.1;have B5:Hid (Below w2.heap.size w2 w5):=bstep (B4.out.alloc B4.out.size _) hb;clear hb HC3 B4 D4)
    | (go_at_call 8;refine (HI1.out _ _ (H2.out.below (B5.out.alloc B5.out.size _))).mono ?_;rintro e x0 ⟨rfl,hb⟩;have X0:Hid (Below w2.heap.size w2 x0):=bstep (B5.out.alloc B5.out.size _) hb;have K0:Hid (KT x0 w3.heap.size w4.heap.size w5.heap.size (fN d) (fN k1) (fN k2)):=(show KT (w5.alloc (.cells #[.string (fN k2),.string su5,.slice a5 n5 c5,.int .i64 (fF k2),.int .i64 l5,.slice p5 q5 t5] 29)) w3.heap.size w4.heap.size w5.heap.size (fN d) (fN k1) (fN k2) from ⟨(cell_of_row _ w3.heap.size 0 _ _ _ (hkeep D5.out.1)).trans rfl,(cell_of_row _ w4.heap.size 0 _ _ _ (hkeep D5.out.2)).trans rfl,(cell_of_row _ w5.heap.size 0 _ _ _ (halloc1 _ _)).trans rfl⟩).bel hb;clear hb HI1 f5)
    | (go_at_call 8;refine (HI2.out _ _ (H2.out.below X0.out)).mono ?_;rintro e x1 ⟨rfl,hb⟩;have X1:Hid (Below w2.heap.size w2 x1):=bstep X0.out hb;have K1:Hid (KT x1 w3.heap.size w4.heap.size w5.heap.size (fN d) (fN k1) (fN k2)):=K0.out.bel hb;clear hb HI2 X0 K0)
    | (go_at_call 8;refine (HI3.out _ _ (H2.out.below X1.out)).mono ?_;rintro e x2 ⟨rfl,hb⟩;have X2:Hid (Below w2.heap.size w2 x2):=bstep X1.out hb;have K2:Hid (KT x2 w3.heap.size w4.heap.size w5.heap.size (fN d) (fN k1) (fN k2)):=K1.out.bel hb;clear hb HI3 X1 K1)
    | (go_at_call 9;refine (HX1.out _ _ (H2.out.below X2.out)).mono ?_;rintro e x3 ⟨rfl,hb⟩;have X3:Hid (Below w2.heap.size w2 x3):=bstep X2.out hb;have K3:Hid (KT x3 w3.heap.size w4.heap.size w5.heap.size (fN d) (fN k1) (fN k2)):=K2.out.bel hb;clear hb HX1 X2 K2)
    | (go_at_call 9;refine (HX2.out _ _ (H2.out.below X3.out)).mono ?_;rintro e x4 ⟨rfl,hb⟩;have X4:Hid (Below w2.heap.size w2 x4):=bstep X3.out hb;have K4:Hid (KT x4 w3.heap.size w4.heap.size w5.heap.size (fN d) (fN k1) (fN k2)):=K3.out.bel hb;clear hb HX2 X3 K3)
    | (go_at_call 10;refine (lnew_c b _).mono ?_;rintro e w6 ⟨rfl,hl,hz6,hb⟩;have B6:Hid (Below w2.heap.size w2 w6):=bstep X4.out hb;have K6:=K4.out.bel hb;have HK6:Hid (KT w6 w3.heap.size w4.heap.size w5.heap.size (fN d) (fN k1) (fN k2)):=K6;have ka:=K6.cb;have kl:=K6.lt;have S6:Hid (Bs ps b (x4.heap.size+1) w2 w6):=⟨H2.out,bstep X4.out hb,hl⟩;have hlb:x4.heap.size+1<w6.heap.size:=hz6;clear hl hb X4 K4 K6 hz6)
    | (go_at_call 11;refine (HN1.out _ _ _ _ S6.out).mono ?_;rintro e w7 ⟨rfl,hb⟩;have K7:=HK6.out.bel hb;have kb:=K7.cc;have S7:Hid (Bs ps b (x4.heap.size+1) w2 w7):=S6.out.bl hb;clear hb HN1 K7 ka HK6)
    | (go_at_call 11;refine (HN2.out _ _ _ _ S7.out).mono ?_;rintro e w8 ⟨rfl,hb⟩;have B8:Hid (Below w2.heap.size w2 w8):=(S7.out.bl hb).bel;clear hb HN2 kb))
  go_ret
  exact ⟨rfl,bstep B2.out B8.out⟩
set_option maxHeartbeats 8000000 in
theorem wsB1 (ps:List Plc) (W:World) (v:Value) (d k1 k2:Int) (n ds:ByteArray) (fN:Int→ByteArray) (fF fE:Int→Int) (fI:Int→Bool) (fX:Int→Int→Bool)
    (HB:Hid (∀ w:World,Below W.heap.size W w→Calls Tryz.prog 6 #[v] w fun e w'=>(∃ b,e=.returned (.pointer (some ⟨b,0,none⟩))∧WAt b ps w')∧Below w.heap.size w w'))
    (HCl:Hid (∀ (x:Int) b w,WAt b ps w→Calls Tryz.prog 7 #[.pointer (some ⟨b,0,none⟩),.int .i64 x] w fun e w'=>(∃ su a1 n1 c1 ld a2 n2 c2,e=.returned (.tuple #[.agg #[.string (fN x),.string su,.slice a1 n1 c1,.int .i64 (fF x),.int .i64 ld,.slice a2 n2 c2],.int .i64 (fE x)]))∧Below w.heap.size w w'))
    (HI:Hid (∀ (x:Int) b w,WAt b ps w→Calls Tryz.prog 8 #[.pointer (some ⟨b,0,none⟩),.int .i64 x] w fun e w'=>e=.returned (.bool (fI x))∧Below w.heap.size w w'))
    (HX:Hid (∀ (x y:Int) b w,WAt b ps w→Calls Tryz.prog 9 #[.pointer (some ⟨b,0,none⟩),.int .i64 x,.int .i64 y] w fun e w'=>e=.returned (.bool (fX x y))∧Below w.heap.size w w'))
    (h0:fE d=0) (h1:fE k1=0) (h2:fE k2=0) (h3:(bits .and .i64 (fF d) 32 == 0)=false) (h4:¬ k1=d) (h5:¬ k2=d) (h6:(n.toList == [60,105,110,105,116,62])=false)
    (c0:fI d=false) (c1:fI k1=false) (c2:fI k2=false) (c3:fX d k1=true) (c4:fX d k2=true)
    (HN1:Hid (∀ b lb w2 w,Bs ps b lb w2 w→Calls Tryz.prog 11 #[.pointer (some ⟨lb,0,none⟩),.int .i64 d,.int .i64 3,.agg #[.bool false,.string (fN k1),.string n,.string ds],.int .i64 1] w fun e w'=>∃ sb,e=.returned (.tuple #[.pointer (some ⟨sb,0,none⟩),.int .i64 0])∧NewS w w' sb lb d (fN k1) n ds∧Below w.heap.size w w'))
    (HN2:Hid (∀ b lb w2 w,Bs ps b lb w2 w→Calls Tryz.prog 11 #[.pointer (some ⟨lb,0,none⟩),.int .i64 d,.int .i64 3,.agg #[.bool false,.string (fN k2),.string n,.string ds],.int .i64 1] w fun e w'=>∃ sb,e=.returned (.tuple #[.pointer (some ⟨sb,0,none⟩),.int .i64 0])∧NewS w w' sb lb d (fN k2) n ds∧Below w.heap.size w w'))
    (L1:Int) (hL1:¬ L1=0) (R1:World→World→Nat→Nat→Nat→Prop) (HL1:Hid (∀ b lb sb pc w2 w,Bs ps b lb w2 w→w2.heap.size≤sb→sb≠lb→SiAt w sb lb d (fN k1) n ds pc 0 none 0 0 0→Calls Tryz.prog 12 #[.pointer (some ⟨sb,0,none⟩)] w fun e w'=>e=.returned (.int .i64 L1)∧R1 w w' sb lb pc∧Tch (fun k=>k=sb) w w')) :
    Calls Tryz.prog 3 #[v,.int .i64 d,.int .i64 k1,.int .i64 k2,.string n,.string ds] W fun e w'=>e=.returned (.bool true)∧Below W.heap.size W w':=by
  have HA:Hid (∀ w:World,Calls Tryz.prog 5 #[] w fun e w'=>e=.returned (.bool true)∧Below w.heap.size w w'):=awakeT_c
  have B0:Hid (Below W.heap.size W W):=Below.refl _ _
  have HC1:Hid (∀ b w,WAt b ps w→Calls Tryz.prog 7 #[.pointer (some ⟨b,0,none⟩),.int .i64 d] w fun e w'=>(∃ su a1 n1 c1 ld a2 n2 c2,e=.returned (.tuple #[.agg #[.string (fN d),.string su,.slice a1 n1 c1,.int .i64 (fF d),.int .i64 ld,.slice a2 n2 c2],.int .i64 (fE d)]))∧Below w.heap.size w w'):=HCl.out d
  have HC2:Hid (∀ b w,WAt b ps w→Calls Tryz.prog 7 #[.pointer (some ⟨b,0,none⟩),.int .i64 k1] w fun e w'=>(∃ su a1 n1 c1 ld a2 n2 c2,e=.returned (.tuple #[.agg #[.string (fN k1),.string su,.slice a1 n1 c1,.int .i64 (fF k1),.int .i64 ld,.slice a2 n2 c2],.int .i64 (fE k1)]))∧Below w.heap.size w w'):=HCl.out k1
  have HC3:Hid (∀ b w,WAt b ps w→Calls Tryz.prog 7 #[.pointer (some ⟨b,0,none⟩),.int .i64 k2] w fun e w'=>(∃ su a1 n1 c1 ld a2 n2 c2,e=.returned (.tuple #[.agg #[.string (fN k2),.string su,.slice a1 n1 c1,.int .i64 (fF k2),.int .i64 ld,.slice a2 n2 c2],.int .i64 (fE k2)]))∧Below w.heap.size w w'):=HCl.out k2
  clear HCl
  have HI1:Hid (∀ b w,WAt b ps w→Calls Tryz.prog 8 #[.pointer (some ⟨b,0,none⟩),.int .i64 d] w fun e w'=>e=.returned (.bool (fI d))∧Below w.heap.size w w'):=HI.out d
  have HI2:Hid (∀ b w,WAt b ps w→Calls Tryz.prog 8 #[.pointer (some ⟨b,0,none⟩),.int .i64 k1] w fun e w'=>e=.returned (.bool (fI k1))∧Below w.heap.size w w'):=HI.out k1
  have HI3:Hid (∀ b w,WAt b ps w→Calls Tryz.prog 8 #[.pointer (some ⟨b,0,none⟩),.int .i64 k2] w fun e w'=>e=.returned (.bool (fI k2))∧Below w.heap.size w w'):=HI.out k2
  have HX1:Hid (∀ b w,WAt b ps w→Calls Tryz.prog 9 #[.pointer (some ⟨b,0,none⟩),.int .i64 d,.int .i64 k1] w fun e w'=>e=.returned (.bool (fX d k1))∧Below w.heap.size w w'):=HX.out d k1
  have HX2:Hid (∀ b w,WAt b ps w→Calls Tryz.prog 9 #[.pointer (some ⟨b,0,none⟩),.int .i64 d,.int .i64 k2] w fun e w'=>e=.returned (.bool (fX d k2))∧Below w.heap.size w w'):=HX.out d k2
  clear HI HX
  rw [c0] at HI1
  rw [c1] at HI2
  rw [c2] at HI3
  rw [c3] at HX1
  rw [c4] at HX2
  have g0:(fE d == 0)=true:=by simpa using h0
  have g1:(fE k1 == 0)=true:=by simpa using h1
  have g2:(fE k2 == 0)=true:=by simpa using h2
  have g4:(k1 == d)=false:=by simpa using h4
  have g5:(k2 == d)=false:=by simpa using h5
  have hL1b:(L1 == 0)=false:=by simpa using hL1
  go_enter Tryz.func3,Tryz.ntmps3
  go_wp2_with (first
    | (go_at_call 5;refine (HA.out _).mono ?_;rintro e w1 ⟨rfl,hb⟩;have B1:Hid (Below W.heap.size W w1):=hb;clear hb HA)
    | (go_at_call 6;refine (HB.out _ B1.out).mono ?_;rintro e w2 ⟨⟨b,rfl,hw⟩,hb⟩;have H2:Hid (WAt b ps w2):=hw;have B2:Hid (Below W.heap.size W w2):=bstep B1.out hb;clear hw hb HB B1)
    | (go_at_call 7;refine (HC1.out _ _ H2.out).mono ?_;rintro e w3 ⟨⟨su3,a3,n3,c3,l3,p3,q3,t3,rfl⟩,hb⟩;have B3:Hid (Below w2.heap.size w2 w3):=hb;clear hb HC1)
    | (go_at_call 7;refine (HC2.out _ _ (H2.out.below (B3.out.alloc B3.out.size _))).mono ?_;rintro e w4 ⟨⟨su4,a4,n4,c4,l4,p4,q4,t4,rfl⟩,hb⟩;have D4:Hid (w4.heap[w3.heap.size]?=some (.cells #[.string (fN d),.string su3,.slice a3 n3 c3,.int .i64 (fF d),.int .i64 l3,.slice p3 q3 t3] 29 (0,0))):=(hb.block w3.heap.size (by simp)).trans (halloc1 _ _);have B4:Hid (Below w2.heap.size w2 w4):=bstep (B3.out.alloc B3.out.size _) hb;clear hb HC2 B3)
    | (go_at_call 7;refine (HC3.out _ _ (H2.out.below (B4.out.alloc B4.out.size _))).mono ?_;rintro e w5 ⟨⟨su5,a5,n5,c5,l5,p5,q5,t5,rfl⟩,hb⟩;have D5:Hid (w5.heap[w3.heap.size]?=some (.cells #[.string (fN d),.string su3,.slice a3 n3 c3,.int .i64 (fF d),.int .i64 l3,.slice p3 q3 t3] 29 (0,0))∧w5.heap[w4.heap.size]?=some (.cells #[.string (fN k1),.string su4,.slice a4 n4 c4,.int .i64 (fF k1),.int .i64 l4,.slice p4 q4 t4] 29 (0,0))):=⟨(hb.block w3.heap.size (by have:=lt_of_blk D4.out;simp;omega)).trans (hkeep D4.out),(hb.block w4.heap.size (by simp)).trans (halloc1 _ _)⟩;have f5:w5.cell? ⟨w3.heap.size,3,none⟩=some (.int .i64 (fF d)):=(cell_of_row w5 _ 3 _ _ _ D5.out.1).trans rfl;have z5:w3.heap.size<w5.heap.size:=lt_of_blk D5.out.1;have B5:Hid (Below w2.heap.size w2 w5):=bstep (B4.out.alloc B4.out.size _) hb;clear hb HC3 B4 D4)
    | (go_at_call 8;refine (HI1.out _ _ (H2.out.below (B5.out.alloc B5.out.size _))).mono ?_;rintro e x0 ⟨rfl,hb⟩;have X0:Hid (Below w2.heap.size w2 x0):=bstep (B5.out.alloc B5.out.size _) hb;have K0:Hid (KT x0 w3.heap.size w4.heap.size w5.heap.size (fN d) (fN k1) (fN k2)):=(show KT (w5.alloc (.cells #[.string (fN k2),.string su5,.slice a5 n5 c5,.int .i64 (fF k2),.int .i64 l5,.slice p5 q5 t5] 29)) w3.heap.size w4.heap.size w5.heap.size (fN d) (fN k1) (fN k2) from ⟨(cell_of_row _ w3.heap.size 0 _ _ _ (hkeep D5.out.1)).trans rfl,(cell_of_row _ w4.heap.size 0 _ _ _ (hkeep D5.out.2)).trans rfl,(cell_of_row _ w5.heap.size 0 _ _ _ (halloc1 _ _)).trans rfl⟩).bel hb;clear hb HI1 f5)
    | (go_at_call 8;refine (HI2.out _ _ (H2.out.below X0.out)).mono ?_;rintro e x1 ⟨rfl,hb⟩;have X1:Hid (Below w2.heap.size w2 x1):=bstep X0.out hb;have K1:Hid (KT x1 w3.heap.size w4.heap.size w5.heap.size (fN d) (fN k1) (fN k2)):=K0.out.bel hb;clear hb HI2 X0 K0)
    | (go_at_call 8;refine (HI3.out _ _ (H2.out.below X1.out)).mono ?_;rintro e x2 ⟨rfl,hb⟩;have X2:Hid (Below w2.heap.size w2 x2):=bstep X1.out hb;have K2:Hid (KT x2 w3.heap.size w4.heap.size w5.heap.size (fN d) (fN k1) (fN k2)):=K1.out.bel hb;clear hb HI3 X1 K1)
    | (go_at_call 9;refine (HX1.out _ _ (H2.out.below X2.out)).mono ?_;rintro e x3 ⟨rfl,hb⟩;have X3:Hid (Below w2.heap.size w2 x3):=bstep X2.out hb;have K3:Hid (KT x3 w3.heap.size w4.heap.size w5.heap.size (fN d) (fN k1) (fN k2)):=K2.out.bel hb;clear hb HX1 X2 K2)
    | (go_at_call 9;refine (HX2.out _ _ (H2.out.below X3.out)).mono ?_;rintro e x4 ⟨rfl,hb⟩;have X4:Hid (Below w2.heap.size w2 x4):=bstep X3.out hb;have K4:Hid (KT x4 w3.heap.size w4.heap.size w5.heap.size (fN d) (fN k1) (fN k2)):=K3.out.bel hb;clear hb HX2 X3 K3)
    | (go_at_call 10;refine (lnew_c b _).mono ?_;rintro e w6 ⟨rfl,hl,hz6,hb⟩;have B6:Hid (Below w2.heap.size w2 w6):=bstep X4.out hb;have K6:=K4.out.bel hb;have HK6:Hid (KT w6 w3.heap.size w4.heap.size w5.heap.size (fN d) (fN k1) (fN k2)):=K6;have ka:=K6.cb;have kl:=K6.lt;have S6:Hid (Bs ps b (x4.heap.size+1) w2 w6):=⟨H2.out,bstep X4.out hb,hl⟩;have hlb:x4.heap.size+1<w6.heap.size:=hz6;clear hl hb X4 K4 K6 hz6)
    | (go_at_call 11;refine (HN1.out _ _ _ _ S6.out).mono ?_;rintro e w7 ⟨sb,rfl,hns,hb⟩;obtain ⟨u1,pc,qc,u2,u3,u4,u5⟩:=hns;have K7:=HK6.out.bel hb;have kb:=K7.cc;have HK7:Hid (KT w7 w3.heap.size w4.heap.size w5.heap.size (fN d) (fN k1) (fN k2)):=K7;have S7:Hid (Bs ps b (x4.heap.size+1) w2 w7):=S6.out.bl hb;have hz7:w6.heap.size≤w7.heap.size:=hb.size;have SS7:Hid (SiAt w7 sb (x4.heap.size+1) d (fN k1) n ds pc 0 none 0 0 0):=u4;have EE7:Hid (E1 w7 pc qc 0 0 0):=u5;have ls:=lt_of_blk u4;have lp:=u5.lt;clear hb HN1 K7 ka HK6 u4 u5)
    | (go_at_call 11;refine (HN2.out _ _ _ _ S7.out).mono ?_;rintro e w8 ⟨sv,rfl,hns,hb⟩;obtain ⟨v1,pv,qv,v2,v3,v4,v5⟩:=hns;have HK8:Hid (KT w8 w3.heap.size w4.heap.size w5.heap.size (fN d) (fN k1) (fN k2)):=HK7.out.bel hb;have S8:Hid (Bs ps b (x4.heap.size+1) w2 w8):=S7.out.bl hb;have hz8:w7.heap.size≤w8.heap.size:=hb.size;have SS8:Hid (SiAt w8 sb (x4.heap.size+1) d (fN k1) n ds pc 0 none 0 0 0):=SS7.out.keep (hb.block _ ls);have EE8:Hid (E1 w8 pc qc 0 0 0):=EE7.out.bel hb;have ST8:Hid (SiAt w8 sv (x4.heap.size+1) d (fN k2) n ds pv 0 none 0 0 0):=v4;have ET8:Hid (E1 w8 pv qv 0 0 0):=v5;have lsv:=lt_of_blk v4;have lpv:=v5.lt;have nse:=ne_se SS8.out EE8.out;have nte:=ne_se v4 v5;have hz2:w2.heap.size≤w6.heap.size:=B6.out.size;clear hb HN2 kb v4 v5 SS7 EE7 HK7 S7 S6)
    | (go_at_call 12;refine (HL1.out _ _ _ _ _ _ S8.out (by omega) (by omega) SS8.out).mono ?_;rintro e w9 ⟨rfl,hr,ht⟩;have S9:Hid (Bs ps b (x4.heap.size+1) w2 w9):=S8.out.tch ht (fun k e=>by omega);have T9:Hid (Tch (fun k=>k=sb) w8 w9):=ht;have R9:Hid (R1 w8 w9 sb (x4.heap.size+1) pc):=hr;clear ht hr HL1))
  go_ret
  exact ⟨rfl,bstep B2.out S9.out.bel⟩
set_option maxHeartbeats 8000000 in
theorem wsB2 (ps:List Plc) (W:World) (v:Value) (d k1 k2:Int) (n ds:ByteArray) (fN:Int→ByteArray) (fF fE:Int→Int) (fI:Int→Bool) (fX:Int→Int→Bool)
    (HB:Hid (∀ w:World,Below W.heap.size W w→Calls Tryz.prog 6 #[v] w fun e w'=>(∃ b,e=.returned (.pointer (some ⟨b,0,none⟩))∧WAt b ps w')∧Below w.heap.size w w'))
    (HCl:Hid (∀ (x:Int) b w,WAt b ps w→Calls Tryz.prog 7 #[.pointer (some ⟨b,0,none⟩),.int .i64 x] w fun e w'=>(∃ su a1 n1 c1 ld a2 n2 c2,e=.returned (.tuple #[.agg #[.string (fN x),.string su,.slice a1 n1 c1,.int .i64 (fF x),.int .i64 ld,.slice a2 n2 c2],.int .i64 (fE x)]))∧Below w.heap.size w w'))
    (HI:Hid (∀ (x:Int) b w,WAt b ps w→Calls Tryz.prog 8 #[.pointer (some ⟨b,0,none⟩),.int .i64 x] w fun e w'=>e=.returned (.bool (fI x))∧Below w.heap.size w w'))
    (HX:Hid (∀ (x y:Int) b w,WAt b ps w→Calls Tryz.prog 9 #[.pointer (some ⟨b,0,none⟩),.int .i64 x,.int .i64 y] w fun e w'=>e=.returned (.bool (fX x y))∧Below w.heap.size w w'))
    (h0:fE d=0) (h1:fE k1=0) (h2:fE k2=0) (h3:(bits .and .i64 (fF d) 32 == 0)=false) (h4:¬ k1=d) (h5:¬ k2=d) (h6:(n.toList == [60,105,110,105,116,62])=false)
    (c0:fI d=false) (c1:fI k1=false) (c2:fI k2=false) (c3:fX d k1=true) (c4:fX d k2=true)
    (HN1:Hid (∀ b lb w2 w,Bs ps b lb w2 w→Calls Tryz.prog 11 #[.pointer (some ⟨lb,0,none⟩),.int .i64 d,.int .i64 3,.agg #[.bool false,.string (fN k1),.string n,.string ds],.int .i64 1] w fun e w'=>∃ sb,e=.returned (.tuple #[.pointer (some ⟨sb,0,none⟩),.int .i64 0])∧NewS w w' sb lb d (fN k1) n ds∧Below w.heap.size w w'))
    (HN2:Hid (∀ b lb w2 w,Bs ps b lb w2 w→Calls Tryz.prog 11 #[.pointer (some ⟨lb,0,none⟩),.int .i64 d,.int .i64 3,.agg #[.bool false,.string (fN k2),.string n,.string ds],.int .i64 1] w fun e w'=>∃ sb,e=.returned (.tuple #[.pointer (some ⟨sb,0,none⟩),.int .i64 0])∧NewS w w' sb lb d (fN k2) n ds∧Below w.heap.size w w'))
    (R1:World→World→Nat→Nat→Nat→Prop) (HL1:Hid (∀ b lb sb pc w2 w,Bs ps b lb w2 w→w2.heap.size≤sb→sb≠lb→SiAt w sb lb d (fN k1) n ds pc 0 none 0 0 0→Calls Tryz.prog 12 #[.pointer (some ⟨sb,0,none⟩)] w fun e w'=>e=.returned (.int .i64 0)∧R1 w w' sb lb pc∧Tch (fun k=>k=sb) w w'))
    (L2:Int) (hL2:¬ L2=0) (R2:World→World→Nat→Nat→Nat→Prop) (HL2:Hid (∀ b lb sb pc w2 w,Bs ps b lb w2 w→w2.heap.size≤sb→sb≠lb→SiAt w sb lb d (fN k2) n ds pc 0 none 0 0 0→Calls Tryz.prog 12 #[.pointer (some ⟨sb,0,none⟩)] w fun e w'=>e=.returned (.int .i64 L2)∧R2 w w' sb lb pc∧Tch (fun k=>k=sb) w w')) :
    Calls Tryz.prog 3 #[v,.int .i64 d,.int .i64 k1,.int .i64 k2,.string n,.string ds] W fun e w'=>e=.returned (.bool true)∧Below W.heap.size W w':=by
  have HA:Hid (∀ w:World,Calls Tryz.prog 5 #[] w fun e w'=>e=.returned (.bool true)∧Below w.heap.size w w'):=awakeT_c
  have B0:Hid (Below W.heap.size W W):=Below.refl _ _
  have HC1:Hid (∀ b w,WAt b ps w→Calls Tryz.prog 7 #[.pointer (some ⟨b,0,none⟩),.int .i64 d] w fun e w'=>(∃ su a1 n1 c1 ld a2 n2 c2,e=.returned (.tuple #[.agg #[.string (fN d),.string su,.slice a1 n1 c1,.int .i64 (fF d),.int .i64 ld,.slice a2 n2 c2],.int .i64 (fE d)]))∧Below w.heap.size w w'):=HCl.out d
  have HC2:Hid (∀ b w,WAt b ps w→Calls Tryz.prog 7 #[.pointer (some ⟨b,0,none⟩),.int .i64 k1] w fun e w'=>(∃ su a1 n1 c1 ld a2 n2 c2,e=.returned (.tuple #[.agg #[.string (fN k1),.string su,.slice a1 n1 c1,.int .i64 (fF k1),.int .i64 ld,.slice a2 n2 c2],.int .i64 (fE k1)]))∧Below w.heap.size w w'):=HCl.out k1
  have HC3:Hid (∀ b w,WAt b ps w→Calls Tryz.prog 7 #[.pointer (some ⟨b,0,none⟩),.int .i64 k2] w fun e w'=>(∃ su a1 n1 c1 ld a2 n2 c2,e=.returned (.tuple #[.agg #[.string (fN k2),.string su,.slice a1 n1 c1,.int .i64 (fF k2),.int .i64 ld,.slice a2 n2 c2],.int .i64 (fE k2)]))∧Below w.heap.size w w'):=HCl.out k2
  clear HCl
  have HI1:Hid (∀ b w,WAt b ps w→Calls Tryz.prog 8 #[.pointer (some ⟨b,0,none⟩),.int .i64 d] w fun e w'=>e=.returned (.bool (fI d))∧Below w.heap.size w w'):=HI.out d
  have HI2:Hid (∀ b w,WAt b ps w→Calls Tryz.prog 8 #[.pointer (some ⟨b,0,none⟩),.int .i64 k1] w fun e w'=>e=.returned (.bool (fI k1))∧Below w.heap.size w w'):=HI.out k1
  have HI3:Hid (∀ b w,WAt b ps w→Calls Tryz.prog 8 #[.pointer (some ⟨b,0,none⟩),.int .i64 k2] w fun e w'=>e=.returned (.bool (fI k2))∧Below w.heap.size w w'):=HI.out k2
  have HX1:Hid (∀ b w,WAt b ps w→Calls Tryz.prog 9 #[.pointer (some ⟨b,0,none⟩),.int .i64 d,.int .i64 k1] w fun e w'=>e=.returned (.bool (fX d k1))∧Below w.heap.size w w'):=HX.out d k1
  have HX2:Hid (∀ b w,WAt b ps w→Calls Tryz.prog 9 #[.pointer (some ⟨b,0,none⟩),.int .i64 d,.int .i64 k2] w fun e w'=>e=.returned (.bool (fX d k2))∧Below w.heap.size w w'):=HX.out d k2
  clear HI HX
  rw [c0] at HI1
  rw [c1] at HI2
  rw [c2] at HI3
  rw [c3] at HX1
  rw [c4] at HX2
  have g0:(fE d == 0)=true:=by simpa using h0
  have g1:(fE k1 == 0)=true:=by simpa using h1
  have g2:(fE k2 == 0)=true:=by simpa using h2
  have g4:(k1 == d)=false:=by simpa using h4
  have g5:(k2 == d)=false:=by simpa using h5
  have hL2b:(L2 == 0)=false:=by simpa using hL2
  go_enter Tryz.func3,Tryz.ntmps3
  go_wp2_with (first
    | (go_at_call 5;refine (HA.out _).mono ?_;rintro e w1 ⟨rfl,hb⟩;have B1:Hid (Below W.heap.size W w1):=hb;clear hb HA)
    | (go_at_call 6;refine (HB.out _ B1.out).mono ?_;rintro e w2 ⟨⟨b,rfl,hw⟩,hb⟩;have H2:Hid (WAt b ps w2):=hw;have B2:Hid (Below W.heap.size W w2):=bstep B1.out hb;clear hw hb HB B1)
    | (go_at_call 7;refine (HC1.out _ _ H2.out).mono ?_;rintro e w3 ⟨⟨su3,a3,n3,c3,l3,p3,q3,t3,rfl⟩,hb⟩;have B3:Hid (Below w2.heap.size w2 w3):=hb;clear hb HC1)
    | (go_at_call 7;refine (HC2.out _ _ (H2.out.below (B3.out.alloc B3.out.size _))).mono ?_;rintro e w4 ⟨⟨su4,a4,n4,c4,l4,p4,q4,t4,rfl⟩,hb⟩;have D4:Hid (w4.heap[w3.heap.size]?=some (.cells #[.string (fN d),.string su3,.slice a3 n3 c3,.int .i64 (fF d),.int .i64 l3,.slice p3 q3 t3] 29 (0,0))):=(hb.block w3.heap.size (by simp)).trans (halloc1 _ _);have B4:Hid (Below w2.heap.size w2 w4):=bstep (B3.out.alloc B3.out.size _) hb;clear hb HC2 B3)
    | (go_at_call 7;refine (HC3.out _ _ (H2.out.below (B4.out.alloc B4.out.size _))).mono ?_;rintro e w5 ⟨⟨su5,a5,n5,c5,l5,p5,q5,t5,rfl⟩,hb⟩;have D5:Hid (w5.heap[w3.heap.size]?=some (.cells #[.string (fN d),.string su3,.slice a3 n3 c3,.int .i64 (fF d),.int .i64 l3,.slice p3 q3 t3] 29 (0,0))∧w5.heap[w4.heap.size]?=some (.cells #[.string (fN k1),.string su4,.slice a4 n4 c4,.int .i64 (fF k1),.int .i64 l4,.slice p4 q4 t4] 29 (0,0))):=⟨(hb.block w3.heap.size (by have:=lt_of_blk D4.out;simp;omega)).trans (hkeep D4.out),(hb.block w4.heap.size (by simp)).trans (halloc1 _ _)⟩;have f5:w5.cell? ⟨w3.heap.size,3,none⟩=some (.int .i64 (fF d)):=(cell_of_row w5 _ 3 _ _ _ D5.out.1).trans rfl;have z5:w3.heap.size<w5.heap.size:=lt_of_blk D5.out.1;have B5:Hid (Below w2.heap.size w2 w5):=bstep (B4.out.alloc B4.out.size _) hb;clear hb HC3 B4 D4)
    | (go_at_call 8;refine (HI1.out _ _ (H2.out.below (B5.out.alloc B5.out.size _))).mono ?_;rintro e x0 ⟨rfl,hb⟩;have X0:Hid (Below w2.heap.size w2 x0):=bstep (B5.out.alloc B5.out.size _) hb;have K0:Hid (KT x0 w3.heap.size w4.heap.size w5.heap.size (fN d) (fN k1) (fN k2)):=(show KT (w5.alloc (.cells #[.string (fN k2),.string su5,.slice a5 n5 c5,.int .i64 (fF k2),.int .i64 l5,.slice p5 q5 t5] 29)) w3.heap.size w4.heap.size w5.heap.size (fN d) (fN k1) (fN k2) from ⟨(cell_of_row _ w3.heap.size 0 _ _ _ (hkeep D5.out.1)).trans rfl,(cell_of_row _ w4.heap.size 0 _ _ _ (hkeep D5.out.2)).trans rfl,(cell_of_row _ w5.heap.size 0 _ _ _ (halloc1 _ _)).trans rfl⟩).bel hb;clear hb HI1 f5)
    | (go_at_call 8;refine (HI2.out _ _ (H2.out.below X0.out)).mono ?_;rintro e x1 ⟨rfl,hb⟩;have X1:Hid (Below w2.heap.size w2 x1):=bstep X0.out hb;have K1:Hid (KT x1 w3.heap.size w4.heap.size w5.heap.size (fN d) (fN k1) (fN k2)):=K0.out.bel hb;clear hb HI2 X0 K0)
    | (go_at_call 8;refine (HI3.out _ _ (H2.out.below X1.out)).mono ?_;rintro e x2 ⟨rfl,hb⟩;have X2:Hid (Below w2.heap.size w2 x2):=bstep X1.out hb;have K2:Hid (KT x2 w3.heap.size w4.heap.size w5.heap.size (fN d) (fN k1) (fN k2)):=K1.out.bel hb;clear hb HI3 X1 K1)
    | (go_at_call 9;refine (HX1.out _ _ (H2.out.below X2.out)).mono ?_;rintro e x3 ⟨rfl,hb⟩;have X3:Hid (Below w2.heap.size w2 x3):=bstep X2.out hb;have K3:Hid (KT x3 w3.heap.size w4.heap.size w5.heap.size (fN d) (fN k1) (fN k2)):=K2.out.bel hb;clear hb HX1 X2 K2)
    | (go_at_call 9;refine (HX2.out _ _ (H2.out.below X3.out)).mono ?_;rintro e x4 ⟨rfl,hb⟩;have X4:Hid (Below w2.heap.size w2 x4):=bstep X3.out hb;have K4:Hid (KT x4 w3.heap.size w4.heap.size w5.heap.size (fN d) (fN k1) (fN k2)):=K3.out.bel hb;clear hb HX2 X3 K3)
    | (go_at_call 10;refine (lnew_c b _).mono ?_;rintro e w6 ⟨rfl,hl,hz6,hb⟩;have B6:Hid (Below w2.heap.size w2 w6):=bstep X4.out hb;have K6:=K4.out.bel hb;have HK6:Hid (KT w6 w3.heap.size w4.heap.size w5.heap.size (fN d) (fN k1) (fN k2)):=K6;have ka:=K6.cb;have kl:=K6.lt;have S6:Hid (Bs ps b (x4.heap.size+1) w2 w6):=⟨H2.out,bstep X4.out hb,hl⟩;have hlb:x4.heap.size+1<w6.heap.size:=hz6;clear hl hb X4 K4 K6 hz6)
    | (go_at_call 11;refine (HN1.out _ _ _ _ S6.out).mono ?_;rintro e w7 ⟨sb,rfl,hns,hb⟩;obtain ⟨u1,pc,qc,u2,u3,u4,u5⟩:=hns;have K7:=HK6.out.bel hb;have kb:=K7.cc;have HK7:Hid (KT w7 w3.heap.size w4.heap.size w5.heap.size (fN d) (fN k1) (fN k2)):=K7;have S7:Hid (Bs ps b (x4.heap.size+1) w2 w7):=S6.out.bl hb;have hz7:w6.heap.size≤w7.heap.size:=hb.size;have SS7:Hid (SiAt w7 sb (x4.heap.size+1) d (fN k1) n ds pc 0 none 0 0 0):=u4;have EE7:Hid (E1 w7 pc qc 0 0 0):=u5;have ls:=lt_of_blk u4;have lp:=u5.lt;clear hb HN1 K7 ka HK6 u4 u5)
    | (go_at_call 11;refine (HN2.out _ _ _ _ S7.out).mono ?_;rintro e w8 ⟨sv,rfl,hns,hb⟩;obtain ⟨v1,pv,qv,v2,v3,v4,v5⟩:=hns;have HK8:Hid (KT w8 w3.heap.size w4.heap.size w5.heap.size (fN d) (fN k1) (fN k2)):=HK7.out.bel hb;have S8:Hid (Bs ps b (x4.heap.size+1) w2 w8):=S7.out.bl hb;have hz8:w7.heap.size≤w8.heap.size:=hb.size;have SS8:Hid (SiAt w8 sb (x4.heap.size+1) d (fN k1) n ds pc 0 none 0 0 0):=SS7.out.keep (hb.block _ ls);have EE8:Hid (E1 w8 pc qc 0 0 0):=EE7.out.bel hb;have ST8:Hid (SiAt w8 sv (x4.heap.size+1) d (fN k2) n ds pv 0 none 0 0 0):=v4;have ET8:Hid (E1 w8 pv qv 0 0 0):=v5;have lsv:=lt_of_blk v4;have lpv:=v5.lt;have nse:=ne_se SS8.out EE8.out;have nte:=ne_se v4 v5;have hz2:w2.heap.size≤w6.heap.size:=B6.out.size;clear hb HN2 kb v4 v5 SS7 EE7 HK7 S7 S6)
    | (go_at_call 12;refine (HL1.out _ _ _ _ _ _ S8.out (by omega) (by omega) SS8.out).mono ?_;rintro e w9 ⟨rfl,hr,ht⟩;have S9:Hid (Bs ps b (x4.heap.size+1) w2 w9):=S8.out.tch ht (fun k e=>by omega);have T9:Hid (Tch (fun k=>k=sb) w8 w9):=ht;have R9:Hid (R1 w8 w9 sb (x4.heap.size+1) pc):=hr;clear ht hr HL1)
    | (go_at_call 12;refine (HL2.out _ _ _ _ _ _ S9.out (by omega) (by omega) (ST8.out.keep (T9.out.blk sv lsv (by omega)))).mono ?_;rintro e w10 ⟨rfl,hr,ht⟩;have S10:Hid (Bs ps b (x4.heap.size+1) w2 w10):=S9.out.tch ht (fun k e=>by omega);have T10:Hid (Tch (fun k=>k=sv) w9 w10):=ht;have R10:Hid (R2 w9 w10 sv (x4.heap.size+1) pv):=hr;have z9:=T9.out.size;have kk:=((HK8.out.tch T9.out (by omega) (by omega) (by omega)).tch ht (by omega) (by omega) (by omega));have kx:=kk.ca;clear ht hr HL2 kk))
  go_ret
  exact ⟨rfl,bstep B2.out S10.out.bel⟩
end Go.Proofs.YtenpnkkkjjdccaaGreat
