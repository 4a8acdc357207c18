import Derived.Test.YtfjekhmnjfcbeaaGreatWdB
import Derived.Test.YtfjekhmnjfcbeaaGreatOrdB
import Derived.Test.YtfjekhmnjfcbeaaGreatHgT
import Derived.Test.YtfjekhmnjfcbeaaGreatHrX
import Derived.Test.YtfjekhmnjfcbeaaGreatRfA
import Derived.Test.YtfjekhmnjfcbeaaGreatFOwnA
import Derived.Test.YtfjekhmnjfcbeaaGreatHrR
import Derived.Test.YtfjekhmnjfcbeaaGreatHrP
import Derived.Test.YtfjekhmnjfcbeaaGreatSmA
import Derived.Deep.RegionHeld3
import Derived.Deep.DeepCutAuto
import Derived.BigQuiet
import Derived.Lib.SliceRun
import Derived.Shelf.RegionOpen
set_option maxRecDepth 100000
namespace Go.Proofs.YtfjekhmnjfcbeaaGreat
open Go.RowKit Go.Maps
def wld (l:List Cls):List Plc:=l.foldl (fun ps c=>dfP ps (defN ps c)) P3
theorem wld_snoc (l:List Cls) (c:Cls):wld (l++[c])=dfP (wld l) (defN (wld l) c):=by
  rw [wld,List.foldl_append];rfl
theorem wld_at {l:List Cls} {i:Nat} {c:Cls} (h:l[i]?=some c):wld (l.take (i+1))=dfP (wld (l.take i)) (defN (wld (l.take i)) c):=by
  rw [List.take_add_one,h];exact wld_snoc _ _
theorem wld_ind {P:List Plc→Prop} (h3:P P3) (hd:∀ ps c,P ps→ClsW c→P (dfP ps (defN ps c))):∀ l:List Cls,(∀ c∈l,ClsW c)→P (wld l):=by
  have key:∀ (l:List Cls) (ps:List Plc),(∀ c∈l,ClsW c)→P ps→P (l.foldl (fun ps c=>dfP ps (defN ps c)) ps):=by
    intro l
    induction l with
    | nil=>exact fun ps _ h=>h
    | cons c l ih=>exact fun ps hl h=>ih _ (fun x hx=>hl x (List.mem_cons_of_mem _ hx)) (hd ps c h (hl c (by simp)))
  exact fun l hl=>key l P3 hl h3
theorem wld_wi (l:List Cls) (hl:∀ c∈l,ClsW c):WI (wld l):=wld_ind wi3 (fun _ c h hc=>h.define c hc) l hl
theorem clss_w {w:World} {v:Value} {l:List Cls} (h:IsClss w v l):∀ c∈l,ClsW c:=by
  obtain ⟨ao,cap,e,h1,h2,h3⟩:=h
  intro c hc
  obtain ⟨bk,o,_,_,h4⟩:=h3 (fun e=>by rw [e] at hc;simp at hc)
  obtain ⟨i,hi⟩:=List.mem_iff_getElem?.1 hc
  obtain ⟨vi,vm,_,hin⟩:=h4 i c hi
  exact hin.ok
def extI (ps:List Plc) (a b:Int):Bool:=(plcI ps a).isSome&&(plcI ps b).isSome&&extB (ps.map nd) a.toNat b.toNat
theorem extends_no {b:Nat} {ps:List Plc} {W:World} (h:WAt b ps W) (x y:Int) (hxy:plcI ps x=none∨plcI ps y=none):Calls Tryz.prog 18 #[.pointer (some ⟨b,0,none⟩),.int .i64 x,.int .i64 y] W fun e w'=>e=.returned (.bool false)∧Below W.heap.size W w':=by
  have HX:Hid (∀ i z w,Below W.heap.size W w→plcI ps i=z→Calls Tryz.prog 60 #[.pointer (some ⟨b,0,none⟩),.int .i64 i] w fun e w'=>e=.returned (.bool z.isSome)∧w'=w):=fun i z w hb hi=>by
    have:=has_c (h.below hb) i
    rw [hi] at this;exact this
  clear h
  generalize hpx:plcI ps x=px at *
  generalize hpy:plcI ps y=py at *
  have HPX:Hid _:=hpx
  have HPY:Hid _:=hpy
  clear hpx hpy
  cases px with
  | none =>
    go_enter Tryz.func18,Tryz.ntmps18
    go_wp2_with (go_at_call 60;refine (HX.out _ _ _ (by repeat (first|exact Below.refl _ _|refine Below.setCell ?_ (by simp;try omega) _|refine Below.alloc ?_ (by simp;try omega) _|refine Below.drew ?_)) HPX.out).mono ?_;rintro e w9 ⟨rfl,hw9⟩;rw [hw9];clear hw9 w9)
    refine bodyPost_ret (v:=.bool false) (by simp [results,Tryz.results18,go_sem]) rfl ⟨rfl,(by repeat (first|exact Below.refl _ _|refine Below.setCell ?_ (by simp;try omega) _|refine Below.alloc ?_ (by simp;try omega) _|refine Below.drew ?_))⟩
  | some p =>
    obtain rfl:py=none:=hxy.resolve_left (by simp)
    clear hxy
    have HX1:Hid (∀ i w,Below W.heap.size W w→i=x→Calls Tryz.prog 60 #[.pointer (some ⟨b,0,none⟩),.int .i64 i] w fun e w'=>e=.returned (.bool true)∧w'=w):=fun i w hb hi=>by rw [hi];exact HX.out x _ w hb HPX.out
    have HY1:Hid (∀ i w,Below W.heap.size W w→i=y→Calls Tryz.prog 60 #[.pointer (some ⟨b,0,none⟩),.int .i64 i] w fun e w'=>e=.returned (.bool false)∧w'=w):=fun i w hb hi=>by rw [hi];exact HX.out y _ w hb HPY.out
    go_enter Tryz.func18,Tryz.ntmps18
    go_wp2_with (first
      | (go_at_call 60;refine (HX1.out _ _ (by repeat (first|exact Below.refl _ _|refine Below.setCell ?_ (by simp;try omega) _|refine Below.alloc ?_ (by simp;try omega) _|refine Below.drew ?_)) (by rfl)).mono ?_;rintro e w9 ⟨rfl,hw9⟩;rw [hw9];clear hw9 w9)
      | (go_at_call 60;refine (HY1.out _ _ (by repeat (first|exact Below.refl _ _|refine Below.setCell ?_ (by simp;try omega) _|refine Below.alloc ?_ (by simp;try omega) _|refine Below.drew ?_)) (by rfl)).mono ?_;rintro e w9 ⟨rfl,hw9⟩;rw [hw9];clear hw9 w9))
    refine bodyPost_ret (v:=.bool false) (by simp [results,Tryz.results18,go_sem]) rfl ⟨rfl,(by repeat (first|exact Below.refl _ _|refine Below.setCell ?_ (by simp;try omega) _|refine Below.alloc ?_ (by simp;try omega) _|refine Below.drew ?_))⟩
theorem extends_c {b:Nat} {ps:List Plc} {W:World} (h:WAt b ps W) (hi:WI ps) (x y:Int):Calls Tryz.prog 18 #[.pointer (some ⟨b,0,none⟩),.int .i64 x,.int .i64 y] W fun e w'=>e=.returned (.bool (extI ps x y))∧Below W.heap.size W w':=by
  rcases plcI_cases ps x with ⟨h1,_⟩|⟨k,p,rfl,h2,h1⟩
  · have e:extI ps x y=false:=by rw [extI,h1];rfl
    rw [e];exact extends_no h x y (.inl h1)
  · rcases plcI_cases ps y with ⟨g1,_⟩|⟨j,q,rfl,g2,g1⟩
    · have e:extI ps k y=false:=by rw [extI,h1,g1];rfl
      rw [e];exact extends_no h k y (.inr g1)
    · have e:extI ps k j=extB (ps.map nd) k j:=by rw [extI,h1,g1];rfl
      obtain ⟨N,mb,vp,pv,h⟩:=h
      rw [e];exact extends_yes N b mb ps vp pv k j (List.getElem?_eq_some_iff.1 h2).1 (List.getElem?_eq_some_iff.1 g2).1 hi.wo hi.hi W h
theorem len_c {b:Nat} {ps:List Plc} {W:World} (h:WAt b ps W):Calls Tryz.prog 11 #[.pointer (some ⟨b,0,none⟩)] W fun e w'=>e=.returned (.int .i64 (ps.length:Int))∧w'=W:=by
  obtain ⟨N,mb,vp,pv,h⟩:=h
  exact len_any N b mb ps vp pv W h
def ClsR (n:Nat):Option Plc→Ending→World→Prop
  | none,e,_=>e=.returned (.tuple #[.agg #[.string ⟨#[]⟩,.string ⟨#[]⟩,.slice none 0 0,.int .i64 0,.int .i64 0,.slice none 0 0],.int .i64 3])
  | some q,e,w'=>∃ vi vm qm,e=.returned (.tuple #[.agg #[.string q.c.nm,.string q.c.su,vi,.int .i64 q.c.fl,.int .i64 q.c.ld,vm],.int .i64 0])∧OwnC w' n vi q.c.ni q.c.xi vm qm∧qm.map Prod.fst=q.c.ms
theorem class_c {b:Nat} {ps:List Plc} {W:World} (h:WAt b ps W) (hB:∀ q∈ps,PlcB q) (x:Int):Calls Tryz.prog 13 #[.pointer (some ⟨b,0,none⟩),.int .i64 x] W fun e w'=>ClsR W.heap.size (plcI ps x) e w'∧Below W.heap.size W w':=by
  obtain ⟨N,mb,vp,pv,h⟩:=h
  rcases plcI_cases ps x with ⟨h1,h2⟩|⟨k,p,rfl,h2,h1⟩
  · rw [h1];exact class_no N b mb ps vp pv x W h h2
  · rw [h1]
    refine (class_yes N b mb ps vp pv k p W h h2 (hB p (List.mem_of_getElem? h2))).mono ?_
    rintro e w' ⟨vi,vm,qm,h1,h2,h3,h4⟩
    exact ⟨⟨vi,vm,qm,h1,h2,h3⟩,h4⟩
def bnV:Option Nat→Value
  | some j=>.tuple #[.int .i64 (j:Int),.int .i64 0]
  | none=>.tuple #[.int .i64 0,.int .i64 6]
theorem byName_c {b:Nat} {ps:List Plc} {W:World} (h:WAt b ps W) (nm:ByteArray) (hnz:nm.size≤maxLen):Calls Tryz.prog 12 #[.pointer (some ⟨b,0,none⟩),.string nm] W fun e w'=>e=.returned (bnV (lookL ps nm.data.toList))∧Below W.heap.size W w':=by
  obtain ⟨N,mb,vp,pv,h⟩:=h
  refine (byName_look N b mb ps vp pv nm hnz W h).mono ?_
  rintro e w' ⟨rfl,hb⟩
  exact ⟨by cases lookL ps nm.data.toList <;> rfl,hb⟩
theorem row_same {w w':World} {base:Nat} {e k:Nat} {v:Value} {n:Nat} {xs:List Value} (h:w.ownsRow base e k v n xs) (hs:∀ g,v.ownBlock=some g→w'.heap[g]?=w.heap[g]?):w'.ownsRow base e k v n xs:=by
  refine ⟨h.1,?_⟩
  rcases h.2 with h1|⟨g,cap,cur,rfl,h2,h3,h4⟩
  · exact .inl h1
  · exact .inr ⟨g,cap,cur,rfl,h2,(hs g rfl).trans h3,h4⟩
theorem row_kind {w:World} {base:Nat} {e k:Nat} {v:Value} {n:Nat} {xs:List Value} (h:w.ownsRow base e k v n xs) {g:Nat} (hg:v.ownBlock=some g):∃ cur,w.heap[g]?=some (.cells cur e (0,0)):=by
  rcases h.2 with ⟨rfl,_⟩|⟨g',cap,cur,rfl,h2,h3,h4⟩
  · cases hg
  · cases hg;exact ⟨cur,h3⟩
theorem map_same {P:Program} {w w':World} {k:TypeId} {R:Value→Option (DataW Unit×List MemPlace)} {b n:Nat} {D:DataW Unit} (h:w.ownsMap P k R b n D) (hs:w'.heap[b]?=w.heap[b]?):w'.ownsMap P k R b n D:=by
  obtain ⟨es,clock,h1,h2⟩:=h
  exact ⟨es,clock,hs.trans h1,h2⟩
structure Apart2 (b mb:Nat) (vp:Value) (b' mb':Nat) (vp':Value):Prop where
  bb:b≠b'
  mm:mb≠mb'
  vv:∀ g,vp.ownBlock=some g→vp'.ownBlock≠some g
theorem HW.other {w w':World} {N b mb:Nat} {ps:List Plc} {vp:Value} {pv:List PV} {N' b' mb':Nat} {ps':List Plc} {vp':Value} {pv':List PV} (h:HW w N b mb ps vp pv) (h':HW w N' b' mb' ps' vp' pv') (ha:Apart2 b mb vp b' mb' vp')
    (hk:∀ j<w.heap.size,j≠b'→j≠mb'→some j≠vp'.ownBlock→w'.heap[j]?=w.heap[j]?):HW w' N b mb ps vp pv:=by
  obtain ⟨es',cl',hm',_⟩:=h'.map
  obtain ⟨es,cl,hm,_⟩:=h.map
  have hlt:∀ {j:Nat} {o:Obj},w.heap[j]?=some o→j<w.heap.size:=fun hj=>(Array.getElem?_eq_some_iff.1 hj).1
  have row:∀ {e k:Nat} {v:Value} {n:Nat} {xs:List Value},e=9∨e=56∨e=64∨e=3→w.ownsRow N e k v n xs→w'.ownsRow N e k v n xs:=fun {e k v n xs} he hr=>by
    refine row_same hr (fun g hg=>?_)
    obtain ⟨cur,hc⟩:=row_kind hr hg
    refine hk g (hlt hc) (fun e1=>?_) (fun e1=>?_) (fun e1=>?_)
    · subst e1
      rw [h'.hb] at hc
      injection hc with hc
      injection hc with _ h9 _
      rcases he with rfl|rfl|rfl|rfl <;> exact absurd h9 (by decide)
    · subst e1
      rw [hm'] at hc
      cases hc
    · obtain ⟨cur2,hc2⟩:=row_kind h'.row e1.symm
      rw [hc2] at hc
      injection hc with hc
      injection hc with _ h9 _
      rcases he with rfl|rfl|rfl|rfl <;> exact absurd h9 (by decide)
  have hb2:w'.heap[b]?=w.heap[b]?:=by
    refine hk b (hlt h.hb) ha.bb (fun e1=>?_) (fun e1=>?_)
    · have:=h.hb
      rw [e1,hm'] at this
      cases this
    · obtain ⟨cur2,hc2⟩:=row_kind h'.row e1.symm
      have:=h.hb
      rw [hc2] at this
      injection this with this
      injection this with _ h9 _
      exact absurd h9 (by decide)
  have hm2:w'.heap[mb]?=w.heap[mb]?:=by
    refine hk mb (hlt hm) (fun e1=>?_) ha.mm (fun e1=>?_)
    · rw [e1,h'.hb] at hm
      cases hm
    · obtain ⟨cur2,hc2⟩:=row_kind h'.row e1.symm
      rw [hc2] at hm
      cases hm
  have hv2:w'.ownsRow N 109 8 vp pv.length (flatP pv):=by
    refine row_same h.row (fun g hg=>?_)
    obtain ⟨cur,hc⟩:=row_kind h.row hg
    refine hk g (hlt hc) (fun e1=>?_) (fun e1=>?_) (fun e1=>ha.vv g hg e1.symm)
    · subst e1
      rw [h'.hb] at hc
      injection hc with hc
      injection hc with _ h9 _
      exact absurd h9 (by decide)
    · subst e1
      rw [hm'] at hc
      cases hc
  refine ⟨hb2.trans h.hb,hv2,h.len,fun k p q hp hq=>?_,map_same h.map hm2,h.lb,h.lm,h.wf⟩
  have hpl:=h.pl k p q hp hq
  obtain ⟨qm,h1,h2⟩:=hpl.own
  exact ⟨hpl.nm,hpl.su,hpl.fl,hpl.ld,hpl.sp,⟨qm,h1,row (by decide) h2.ifs,row (by decide) h2.ms,fun x hx=>row (by decide) (h2.cod x hx)⟩,row (by decide) hpl.clo⟩
theorem Apart2.turn {W:World} {N b mb:Nat} {ps:List Plc} {vp:Value} {pv:List PV} {b' mb':Nat} {vp' vp2:Value} (h:HW W N b mb ps vp pv) (ha:Apart2 b mb vp b' mb' vp') (hl:LocV W vp' vp2):Apart2 b mb vp b' mb' vp2:=by
  refine ⟨ha.bb,ha.mm,fun g hg e=>?_⟩
  rcases hl g e with h1|h1
  · exact ha.vv g hg h1
  · have:=(h.row.lt g hg).2
    omega
theorem Apart2.symm {b mb:Nat} {vp:Value} {b' mb':Nat} {vp':Value} (h:Apart2 b mb vp b' mb' vp'):Apart2 b' mb' vp' b mb vp:=⟨h.bb.symm,h.mm.symm,fun g hg e=>h.vv g e hg⟩
theorem HW.low {w:World} {N M b mb:Nat} {ps:List Plc} {vp:Value} {pv:List PV} (h:HW w N b mb ps vp pv) (hM:M≤N):HW w M b mb ps vp pv:=by
  refine ⟨h.hb,Go.Joins.ownsRow_le h.row hM,h.len,fun k p q hp hq=>?_,h.map,Nat.le_trans hM h.lb,Nat.le_trans hM h.lm,h.wf⟩
  have hpl:=h.pl k p q hp hq
  obtain ⟨qm,h1,h2⟩:=hpl.own
  exact ⟨hpl.nm,hpl.su,hpl.fl,hpl.ld,hpl.sp,⟨qm,h1,Go.Joins.ownsRow_le h2.ifs hM,Go.Joins.ownsRow_le h2.ms hM,fun x hx=>Go.Joins.ownsRow_le (h2.cod x hx) hM⟩,Go.Joins.ownsRow_le hpl.clo hM⟩
def Two (N b1 b2:Nat) (ps qs:List Plc) (w:World):Prop:=∃ mb1 vp1 pv1 mb2 vp2 pv2,HW w N b1 mb1 ps vp1 pv1∧HW w N b2 mb2 qs vp2 pv2∧Apart2 b1 mb1 vp1 b2 mb2 vp2
theorem Two.left {N b1 b2:Nat} {ps qs:List Plc} {w:World} (h:Two N b1 b2 ps qs w):WAt b1 ps w:=by
  obtain ⟨_,_,_,_,_,_,h1,_⟩:=h
  exact h1.wat
theorem Two.right {N b1 b2:Nat} {ps qs:List Plc} {w:World} (h:Two N b1 b2 ps qs w):WAt b2 qs w:=by
  obtain ⟨_,_,_,_,_,_,_,h1,_⟩:=h
  exact h1.wat
theorem Two.below {N b1 b2:Nat} {ps qs:List Plc} {w w':World} (h:Two N b1 b2 ps qs w) (hb:Below w.heap.size w w'):Two N b1 b2 ps qs w':=by
  obtain ⟨_,_,_,_,_,_,h1,h2,h3⟩:=h
  exact ⟨_,_,_,_,_,_,h1.below hb,h2.below hb,h3⟩
theorem Two.start {w1 w2 w3:World} {vp1 vp2:Value} {pv1 pv2:List PV} (h1:HW w2 w1.heap.size (w1.heap.size+1) w1.heap.size P3 vp1 pv1) (h2:HW w3 w2.heap.size (w2.heap.size+1) w2.heap.size P3 vp2 pv2) (hb:Below w2.heap.size w2 w3) (hs:w1.heap.size≤w2.heap.size):Two w1.heap.size (w1.heap.size+1) (w2.heap.size+1) P3 P3 w3:=by
  have l1:w1.heap.size+1<w2.heap.size:=(Array.getElem?_eq_some_iff.1 h1.hb).1
  refine ⟨_,_,_,_,_,_,h1.below hb,h2.low hs,⟨by omega,by omega,fun g hg e=>?_⟩⟩
  have y1:=(h1.row.lt g hg).2
  have y2:=(h2.row.lt g e).1
  omega
theorem Two.def1 {N b1 b2:Nat} {ps qs:List Plc} {w:World} (h:Two N b1 b2 ps qs w) (hN:N≤w.heap.size) (c:Cls) (vi vm:Value) (hc:ClsIn w vi vm c) (hz:∀ q∈ps,q.c.nm.size≤maxLen):Calls Tryz.prog 10 #[.pointer (some ⟨b1,0,none⟩),.agg #[.string c.nm,.string c.su,vi,.int .i64 c.fl,.int .i64 c.ld,vm]] w fun e w'=>e=.returned (dfV ps.length (defN ps c))∧Two N b1 b2 (dfP ps (defN ps c)) qs w'∧Below N w w':=by
  obtain ⟨mb1,vp1,pv1,mb2,vp2,pv2,h1,h2,h3⟩:=h
  refine (definel_any N b1 mb1 ps vp1 pv1 c vi vm w h1 hN hc hz).mono ?_
  rintro e w' ⟨rfl,⟨vp',pv',h4,h5⟩,h6,h7⟩
  exact ⟨rfl,⟨_,_,_,_,_,_,h4,h2.other h1 h3.symm h7,(h3.symm.turn h2 h5).symm⟩,h6⟩
theorem Two.symm {N b1 b2:Nat} {ps qs:List Plc} {w:World} (h:Two N b1 b2 ps qs w):Two N b2 b1 qs ps w:=by
  obtain ⟨_,_,_,_,_,_,h1,h2,h3⟩:=h
  exact ⟨_,_,_,_,_,_,h2,h1,h3.symm⟩
theorem Two.def2 {N b1 b2:Nat} {ps qs:List Plc} {w:World} (h:Two N b1 b2 ps qs w) (hN:N≤w.heap.size) (c:Cls) (vi vm:Value) (hc:ClsIn w vi vm c) (hz:∀ q∈qs,q.c.nm.size≤maxLen):Calls Tryz.prog 10 #[.pointer (some ⟨b2,0,none⟩),.agg #[.string c.nm,.string c.su,vi,.int .i64 c.fl,.int .i64 c.ld,vm]] w fun e w'=>e=.returned (dfV qs.length (defN qs c))∧Two N b1 b2 ps (dfP qs (defN qs c)) w'∧Below N w w':=by
  refine (h.symm.def1 hN c vi vm hc hz).mono ?_
  rintro e w' ⟨rfl,h1,h2⟩
  exact ⟨rfl,h1.symm,h2⟩
def chR (ps:List Plc) (x:Int):List Nat×Int:=match plcI ps x with
  | some _=>(chL (ps.map nd) x.toNat,0)
  | none=>([],3)
def clR (ps:List Plc) (x:Int):List Nat×Int:=match plcI ps x with
  | some q=>(q.cl,0)
  | none=>([],3)
def NumsA (r:List Nat×Int) (e:Ending) (w':World):Prop:=∃ a c,e=.returned (.tuple #[.slice a r.1.length c,.int .i64 r.2])∧Rds w' (.slice a r.1.length c) r.1.length 1 (r.1.map numV)
theorem NumsA.of {N:Nat} {l:List Nat} {E:Int} {v:Value} {w':World} (h:w'.ownsRow N 3 1 v l.length (l.map numV)):NumsA (l,E) (.returned (.tuple #[v,.int .i64 E])) w':=by
  obtain ⟨a,c,rfl⟩:=ownv h
  exact ⟨a,c,rfl,own_rds h⟩
theorem NumsA.nil (E:Int) (w':World):NumsA ([],E) (.returned (.tuple #[.slice none 0 0,.int .i64 E])) w':=NumsA.of (N:=0) (World.ownsRow_nil w' 0 _ _)
theorem chain_no6 {b:Nat} {ps:List Plc} {W:World} (h:WAt b ps W) (x:Int) (hx:plcI ps x=none):Calls Tryz.prog 14 #[.pointer (some ⟨b,0,none⟩),.int .i64 x] W fun e w'=>e=.returned (.tuple #[.slice none 0 0,.int .i64 3])∧Below W.heap.size W w':=by
  have HH:Hid (∀ w,Below W.heap.size W w→Calls Tryz.prog 60 #[.pointer (some ⟨b,0,none⟩),.int .i64 x] w fun e w'=>e=.returned (.bool false)∧w'=w):=fun w hb=>by
    have:=has_c (h.below hb) x
    rw [hx] at this
    exact this
  clear h hx
  go_enter Tryz.func14,Tryz.ntmps14
  go_wp2_with (go_at_call 60;refine (HH.out _ (by repeat (first|exact Below.refl _ _|refine Below.setCell ?_ (by simp;try omega) _|refine Below.alloc ?_ (by simp;try omega) _|refine Below.drew ?_))).mono ?_;rintro e w9 ⟨rfl,hw9⟩;rw [hw9];clear hw9 w9)
  exact bodyPost_ret (v:=.tuple #[.slice none 0 0,.int .i64 3]) (by simp [results,Tryz.results14,go_sem, *]) rfl ⟨rfl,(by repeat (first|exact Below.refl _ _|refine Below.setCell ?_ (by simp;try omega) _|refine Below.alloc ?_ (by simp;try omega) _|refine Below.drew ?_))⟩
theorem chain_r {b:Nat} {ps:List Plc} {W:World} (h:WAt b ps W) (hW:WI ps) (x:Int):Calls Tryz.prog 14 #[.pointer (some ⟨b,0,none⟩),.int .i64 x] W fun e w'=>NumsA (chR ps x) e w'∧Below W.heap.size W w':=by
  rcases plcI_cases ps x with ⟨hn,_⟩|⟨k,q,rfl,hk,hq⟩
  · refine (chain_no6 h x hn).mono fun e w' zz=>⟨?_,zz.2⟩
    rw [zz.1,chR,hn]
    exact NumsA.nil 3 w'
  · obtain ⟨N,mb,vp,pv,hw⟩:=h
    refine (chain_yes N b mb ps vp pv k (List.getElem?_eq_some_iff.1 hk).1 hW.wo hW.hi W hw).mono ?_
    rintro e w' ⟨v,rfl,ho,hb⟩
    rw [chR,hq]
    exact ⟨NumsA.of ho,hb⟩
theorem closure_r {b:Nat} {ps:List Plc} {W:World} (h:WAt b ps W) (hW:WI ps) (x:Int):Calls Tryz.prog 15 #[.pointer (some ⟨b,0,none⟩),.int .i64 x] W fun e w'=>NumsA (clR ps x) e w'∧Below W.heap.size W w':=by
  rcases plcI_cases ps x with ⟨hn,h2⟩|⟨k,q,rfl,hk,hq⟩
  · obtain ⟨N,mb,vp,pv,hw⟩:=h
    refine (closure_no N b mb ps vp pv x W hw h2).mono fun e w' zz=>⟨?_,by rw [zz.2];exact Below.refl _ _⟩
    rw [zz.1,clR,hn]
    exact NumsA.nil 3 w'
  · obtain ⟨N,mb,vp,pv,hw⟩:=h
    refine (closure_yes N b mb ps vp pv k q W hw hk hW.hi).mono ?_
    rintro e w' ⟨v,rfl,ho,hb⟩
    rw [clR,hq]
    exact ⟨NumsA.of ho,hb⟩
def ifcC (cs:List Cls) (i:Int):Bool:=match clsI cs i with
  | some c=>hasI c.fl 512
  | none=>false
def togB (p q:Cls):Bool:=(p.ld == q.ld)&&(pkgL p.nm.data.toList == pkgL q.nm.data.toList)
def ropI (cs:List Cls) (c:Cls) (k:Int):Bool:=match clsI cs k with
  | some p=>hasI p.fl 1||togB c p
  | none=>false
def rifN (cs:List Cls) (c:Cls):List (List UInt8)→Int
  | []=>0
  | p::r=>if nmdI (ByteArray.mk p.toArray).toList cs 0<0 then 20 else if ifcC cs (nmdI (ByteArray.mk p.toArray).toList cs 0) then (if ropI cs c (nmdI (ByteArray.mk p.toArray).toList cs 0) then rifN cs c r else 22) else 23
def rdfN (cs:List Cls) (c:Cls):Int:=if clsB c=true then (if 300≤cs.length then 5 else if 0≤nmdI c.nm.toList cs 0 then 25 else if nmdI c.su.toList cs 0<0 then 20 else if ifcC cs (nmdI c.su.toList cs 0)||(hasI c.fl 512&&!(nmdI c.su.toList cs 0 == 0)) then 23 else if ropI cs c (nmdI c.su.toList cs 0) then rifN cs c c.ifs else 22) else 1
def rdfC (cs:List Cls) (c:Cls) (z:Int):List Cls:=if z=0 then cs++[c] else cs
theorem nmdI_range (key:List UInt8):∀ (cs:List Cls) (k:Nat),nmdI key cs k=-1∨∃ j,nmdI key cs k=((k+j:Nat):Int)∧j<cs.length
  | [],_=>.inl rfl
  | c::r,k=>by
    rw [nmdI]
    cases c.nm.toList == key with
    | true=>exact .inr ⟨0,by simp,by simp⟩
    | false =>
      rcases nmdI_range key r (k+1) with h|⟨j,h,hj⟩
      · exact .inl (by simpa using h)
      · exact .inr ⟨j+1,by simp only [Bool.false_eq_true,if_false];rw [h];congr 1;omega,by simp;omega⟩
def insD (op n:Int):Ins:=⟨op,n,⟨#[]⟩,false,⟨#[]⟩,⟨#[]⟩,⟨#[]⟩⟩
def objC:Cls:=⟨tObj,⟨#[]⟩,[],33,0,[⟨⟨#[60,105,110,105,116,62]⟩,⟨#[40,41,86]⟩,1,1,0,[insD 38 0]⟩,⟨⟨#[105,100]⟩,⟨#[40,41,73]⟩,1,1,1,[insD 1 7,insD 36 0]⟩,⟨⟨#[107,105,110]⟩,⟨#[40,41,76,79,98,106,101,99,116,59]⟩,4,1,1,[insD 4 0,insD 37 0]⟩]⟩
def cloC:Cls:=⟨tClo,tObj,[],1537,0,[]⟩
def serC:Cls:=⟨tSer,tObj,[],1537,0,[]⟩
def C3:List Cls:=[objC,cloC,serC]
theorem C3_hc:C3.map hcOf=P3.map Plc.c:=rfl
def NmW (ps:List Plc):Prop:=∀ k q,ps[k]?=some q→lookL ps (nameL q)=some k∧validL (nameL q)=true
theorem cls_name {c:Cls} (h:clsB c=true):validL c.nm.data.toList=true:=by
  unfold clsB at h
  simp only [Bool.and_eq_true] at h
  exact h.1.1.1.1.1.1.1.1.1
theorem nmW (l:List Cls) (hl:∀ c∈l,ClsW c):NmW (wld l):=by
  refine wld_ind (P:=NmW) (fun k q hk=>?_) (fun ps c h hc=>?_) l hl
  · match k,hk with
    | 0,hk=>simp [P3] at hk;subst hk;exact ⟨by decide,by decide⟩
    | 1,hk=>simp [P3] at hk;subst hk;exact ⟨by decide,by decide⟩
    | 2,hk=>simp [P3] at hk;subst hk;exact ⟨by decide,by decide⟩
    | (k+3),hk=>simp [P3] at hk
  · cases hd:defN ps c with
    | error e=>exact h
    | ok p =>
      obtain ⟨h1,_,hn,s,l,_,_,rfl⟩:=def_ok hd
      intro k q hk
      have hk2:(ps++[(⟨hcOf c,s,gathL (ps.map Plc.cl) s l⟩:Plc)])[k]?=some q:=hk
      show lookL (ps++[_]) (nameL q)=some k∧_
      by_cases hlt:k<ps.length
      · rw [List.getElem?_append_left hlt] at hk2
        obtain ⟨h2,h3⟩:=h k q hk2
        exact ⟨look_snoc h2 hn,h3⟩
      · rw [List.getElem?_append_right (by omega)] at hk2
        have he:k - ps.length=0:=by
          have:=(List.getElem?_eq_some_iff.1 hk2).1
          simp at this;omega
        rw [he] at hk2
        simp at hk2
        subst hk2
        refine ⟨?_,cls_name h1⟩
        rw [lookL,lookF_snoc,if_pos rfl]
        congr 1;omega
def Twin (cs:List Cls) (ps:List Plc):Prop:=cs.map hcOf=ps.map Plc.c
theorem Twin.len {cs:List Cls} {ps:List Plc} (h:Twin cs ps):cs.length=ps.length:=by
  have:=congrArg List.length h
  simpa using this
theorem Twin.at {cs:List Cls} {ps:List Plc} (h:Twin cs ps) {k:Nat} {c:Cls} (hk:cs[k]?=some c):∃ q,ps[k]?=some q∧q.c=hcOf c:=by
  have e:(ps.map Plc.c)[k]?=some (hcOf c):=by rw [← h,List.getElem?_map,hk];rfl
  rw [List.getElem?_map] at e
  cases hq:ps[k]? with
  | none=>rw [hq] at e;cases e
  | some q=>rw [hq] at e;exact ⟨q,rfl,Option.some.inj e⟩
theorem Twin.at' {cs:List Cls} {ps:List Plc} (h:Twin cs ps) {k:Nat} {q:Plc} (hk:ps[k]?=some q):∃ c,cs[k]?=some c∧q.c=hcOf c:=by
  have e:(cs.map hcOf)[k]?=some q.c:=by rw [h,List.getElem?_map,hk];rfl
  rw [List.getElem?_map] at e
  cases hq:cs[k]? with
  | none=>rw [hq] at e;cases e
  | some c=>rw [hq] at e;exact ⟨c,rfl,(Option.some.inj e).symm⟩
theorem nmdI_some (key:List UInt8):∀ (cs:List Cls) (k j:Nat),nmdI key cs k=((k+j:Nat):Int)→∃ c,cs[j]?=some c∧c.nm.toList=key
  | [],_,_,h=>by rw [nmdI] at h;omega
  | c::r,k,j,h=>by
    rw [nmdI] at h
    cases e:c.nm.toList == key with
    | true =>
      rw [e,if_pos rfl] at h
      obtain rfl:j=0:=by omega
      exact ⟨c,rfl,beq_iff_eq.1 e⟩
    | false =>
      rw [e,if_neg (by simp)] at h
      cases j with
      | zero =>
        exfalso
        rcases nmdI_range key r (k+1) with h1|⟨i,h1,_⟩
        · rw [h1] at h;omega
        · rw [h1] at h;omega
      | succ j =>
        obtain ⟨d,h1,h2⟩:=nmdI_some key r (k+1) j (by rw [h];congr 1;omega)
        exact ⟨d,by rw [List.getElem?_cons_succ];exact h1,h2⟩
theorem nmdI_no (key:List UInt8):∀ (cs:List Cls) (k:Nat),nmdI key cs k=-1→∀ c∈cs,¬ c.nm.toList=key
  | [],_,_,_,hc=>by simp at hc
  | c::r,k,h,d,hd=>by
    rw [nmdI] at h
    cases e:c.nm.toList == key with
    | true=>rw [e,if_pos rfl] at h;omega
    | false =>
      rw [e,if_neg (by simp)] at h
      rcases List.mem_cons.1 hd with rfl|hd
      · exact fun e2=>by rw [e2] at e;simp at e
      · exact nmdI_no key r (k+1) h d hd
def lkI:Option Nat→Int
  | some j=>(j:Int)
  | none=>-1
theorem look_nmd {cs:List Cls} {ps:List Plc} (h:Twin cs ps) (hn:NmW ps) (key:List UInt8):nmdI key cs 0=lkI (lookL ps key):=by
  rcases nmdI_range key cs 0 with e|⟨j,e,hj⟩
  · rw [e]
    cases hl:lookL ps key with
    | none=>rfl
    | some j =>
      exfalso
      obtain ⟨q,h1,h2⟩:=look_place hl
      obtain ⟨c,h3,h4⟩:=h.at' h1
      refine nmdI_no key cs 0 e c (List.mem_of_getElem? h3) ?_
      rw [Lib.toList_data,← h2,nameL,h4];rfl
  · obtain ⟨c,h1,h2⟩:=nmdI_some key cs 0 j e
    obtain ⟨q,h3,h4⟩:=h.at h1
    have h5:nameL q=key:=by rw [nameL,h4,← h2,Lib.toList_data];rfl
    have h6:=(hn j q h3).1
    rw [h5] at h6
    rw [e,h6,Nat.zero_add];rfl
def errN {α:Type}:Except Int α→Int
  | .ok _=>0
  | .error e=>e
theorem tog_same (c p:Cls) (q:Plc) (hq:q.c=hcOf p):togB c p=sameP q.c c.nm c.ld:=by
  have e1:(hcOf p).ld=p.ld:=rfl
  have e2:(hcOf p).nm=p.nm:=rfl
  rw [togB,sameP,hq,e1,e2,Bool.eq_iff_iff]
  simp only [Bool.and_eq_true,beq_iff_eq]
  exact ⟨fun ⟨a,b⟩=>⟨a.symm,b.symm⟩,fun ⟨a,b⟩=>⟨a.symm,b.symm⟩⟩
theorem rif_eq {cs:List Cls} {ps:List Plc} (h:Twin cs ps) (hn:NmW ps) (c:Cls):∀ (l:List (List UInt8)) (acc:List Nat),rifN cs c l=errN (ifsN ps c.nm c.ld acc l)
  | [],_=>rfl
  | p::r,acc=>by
    have e0:(ByteArray.mk p.toArray).toList=p:=by rw [Lib.toList_data]
    rw [rifN,ifsN,e0,look_nmd h hn]
    cases hl:lookL ps p with
    | none =>
      have e1:aboveN ps c.nm c.ld fitI p=.error 20:=by rw [aboveN,hl]
      rw [e1,lkI,if_pos (by decide)];rfl
    | some k =>
      obtain ⟨q,h1,_⟩:=look_place hl
      obtain ⟨d,h2,h3⟩:=h.at' h1
      have e1:aboveN ps c.nm c.ld fitI p=if fitI k q then (if pubB q.c.fl||sameP q.c c.nm c.ld then .ok k else .error 22) else .error 23:=by
        rw [aboveN,hl];simp only [h1]
      have e2:ifcC cs (lkI (some k))=fitI k q:=by rw [lkI,ifcC,clsI_nat,h2,fitI,h3];rfl
      have e3:ropI cs c (lkI (some k))=(pubB q.c.fl||sameP q.c c.nm c.ld):=by rw [lkI,ropI,clsI_nat,h2];simp only [tog_same c d q h3];rw [h3];rfl
      have e4:¬ lkI (some k)<0:=by rw [lkI];omega
      rw [if_neg e4,e2,e3,e1]
      cases fitI k q with
      | false=>rfl
      | true =>
        cases (pubB q.c.fl||sameP q.c c.nm c.ld) with
        | false=>rfl
        | true =>
          rw [if_pos rfl,if_pos rfl,if_pos rfl,if_pos rfl]
          exact rif_eq h hn c r (acc++[k])
theorem rdf_eq {cs:List Cls} {ps:List Plc} (h:Twin cs ps) (hn:NmW ps) (c:Cls):rdfN cs c=errN (defN ps c):=by
  rw [rdfN,defN,h.len]
  by_cases hB:clsB c=true
  · rw [if_pos hB,if_pos hB]
    by_cases h3:300≤ps.length
    · rw [if_pos h3,if_pos h3];rfl
    · rw [if_neg h3,if_neg h3,look_nmd h hn,Lib.toList_data]
      cases hl:lookL ps c.nm.data.toList with
      | some j=>rw [if_pos (by rw [lkI];omega)];rfl
      | none =>
        rw [if_neg (by decide),look_nmd h hn,Lib.toList_data]
        cases hs:lookL ps c.su.data.toList with
        | none =>
          have e1:aboveN ps c.nm c.ld (fitS c.fl) c.su.data.toList=.error 20:=by rw [aboveN,hs]
          rw [e1,if_pos (by decide)];rfl
        | some k =>
          obtain ⟨q,h1,_⟩:=look_place hs
          obtain ⟨d,h2,h3⟩:=h.at' h1
          have e1:aboveN ps c.nm c.ld (fitS c.fl) c.su.data.toList=if fitS c.fl k q then (if pubB q.c.fl||sameP q.c c.nm c.ld then .ok k else .error 22) else .error 23:=by
            rw [aboveN,hs];simp only [h1]
          have e2:(ifcC cs (lkI (some k))||(hasI c.fl 512&&!(lkI (some k) == 0)))=!fitS c.fl k q:=by
            have f1:ifcC cs (lkI (some k))=ifB q.c.fl:=by rw [lkI,ifcC,clsI_nat,h2,h3];rfl
            have f2:hasI c.fl 512=ifB c.fl:=rfl
            have f3:(lkI (some k) == 0)=decide (k=0):=by rw [lkI,Bool.eq_iff_iff];simp
            rw [f1,f2,f3,fitS]
            cases ifB q.c.fl <;> cases ifB c.fl <;> cases decide (k=0) <;> rfl
          have e3:ropI cs c (lkI (some k))=(pubB q.c.fl||sameP q.c c.nm c.ld):=by rw [lkI,ropI,clsI_nat,h2];simp only [tog_same c d q h3];rw [h3];rfl
          have e4:¬ lkI (some k)<0:=by rw [lkI];omega
          rw [if_neg e4,e2,e3,e1]
          cases fitS c.fl k q with
          | false=>rfl
          | true =>
            cases (pubB q.c.fl||sameP q.c c.nm c.ld) with
            | false=>rfl
            | true =>
              rw [if_neg (by decide),if_pos rfl,if_pos rfl,if_pos rfl,rif_eq h hn c c.ifs []]
              cases ifsN ps c.nm c.ld [] c.ifs <;> rfl
  · rw [if_neg hB,if_neg hB];rfl
theorem def_err {ps:List Plc} {c:Cls} {x:Int} (h:defN ps c=.error x):¬ x=0:=by
  rw [defN] at h
  by_cases hB:clsB c=true
  · rw [if_pos hB] at h
    by_cases h3:300≤ps.length
    · rw [if_pos h3] at h;cases h;decide
    · rw [if_neg h3] at h
      cases hl:lookL ps c.nm.data.toList with
      | some j=>rw [hl] at h;cases h;decide
      | none =>
        rw [hl] at h
        cases ha:aboveN ps c.nm c.ld (fitS c.fl) c.su.data.toList with
        | error y=>rw [ha] at h;cases h;exact above_err ha
        | ok s =>
          rw [ha] at h
          cases hi:ifsN ps c.nm c.ld [] c.ifs with
          | error y=>rw [hi] at h;cases h;exact ifs_err _ _ hi
          | ok l=>rw [hi] at h;cases h
  · rw [if_neg hB] at h;cases h;decide
theorem Twin.define {cs:List Cls} {ps:List Plc} (h:Twin cs ps) (hn:NmW ps) (c:Cls):Twin (rdfC cs c (rdfN cs c)) (dfP ps (defN ps c)):=by
  rw [rdf_eq h hn,rdfC]
  cases hd:defN ps c with
  | error x=>rw [errN,if_neg (def_err hd)];exact h
  | ok p =>
    obtain ⟨_,_,_,s,l,_,_,rfl⟩:=def_ok hd
    rw [errN,if_pos rfl,dfP,Twin,List.map_append,List.map_append,h];rfl
def wldC (l:List Cls):List Cls:=l.foldl (fun cs c=>rdfC cs c (rdfN cs c)) C3
theorem wldC_snoc (l:List Cls) (c:Cls):wldC (l++[c])=rdfC (wldC l) c (rdfN (wldC l) c):=by
  rw [wldC,List.foldl_append];rfl
theorem wldC_at {l:List Cls} {i:Nat} {c:Cls} (h:l[i]?=some c):wldC (l.take (i+1))=rdfC (wldC (l.take i)) c (rdfN (wldC (l.take i)) c):=by
  rw [List.take_add_one,h];exact wldC_snoc _ _
theorem twin_take (l:List Cls) (hl:∀ c∈l,ClsW c):∀ i,Twin (wldC (l.take i)) (wld (l.take i))
  | 0=>C3_hc
  | i+1=>by
    have ih:=twin_take l hl i
    have hn:NmW (wld (l.take i)):=nmW _ (fun c hc=>hl c (List.mem_of_mem_take hc))
    cases hc:l[i]? with
    | none =>
      have e1:l.take (i+1)=l.take i:=by
        have:=List.getElem?_eq_none_iff.1 hc
        rw [List.take_of_length_le (by omega),List.take_of_length_le this]
      rw [e1];exact ih
    | some c =>
      rw [wldC_at hc,wld_at hc]
      exact ih.define hn c
theorem twin_all (l:List Cls) (hl:∀ c∈l,ClsW c):Twin (wldC l) (wld l):=by
  have:=twin_take l hl l.length
  rwa [List.take_of_length_le (Nat.le_refl _)] at this
theorem clO_snoc6 (ns:List Nd) (p:Nd) {k:Nat} (hk:k<ns.length):clO (ns++[p]) k=clO ns k:=by rw [clO,clO,List.getElem?_append_left hk]
theorem spO_snoc6 (ns:List Nd) (p:Nd) {k:Nat} (hk:k<ns.length):spO (ns++[p]) k=spO ns k:=by rw [spO,spO,List.getElem?_append_left hk]
theorem chL_snoc6 {ns:List Nd} {p:Nd} (h:WO ns) (h2:WO (ns++[p])):∀ k,k<ns.length→chL (ns++[p]) k=chL ns k:=by
  refine ch_ind h (P:=fun k=>chL (ns++[p]) k=chL ns k) rfl ?_
  intro k hk h0 _ ih
  rw [chL_cons h hk h0,chL_cons h2 (by simp;omega) h0,spO_snoc6 ns p hk,ih]
theorem extB_snoc6 {ns:List Nd} {p:Nd} (h:WO ns) (h2:WO (ns++[p])) {k:Nat} (hk:k<ns.length) (m:Nat):extB (ns++[p]) k m=extB ns k m:=by
  rw [extB,extB,chL_snoc6 h h2 k hk,clO_snoc6 ns p hk]
structure Gw (ps qs:List Plc):Prop where
  wi:WI ps
  wi2:WI qs
  eq:qs=ps∨∃ p,qs=ps++[p]
theorem Gw.plc {ps qs:List Plc} (h:Gw ps qs) {k:Nat} (hk:k<ps.length):plcI qs (k:Int)=plcI ps (k:Int):=by
  rcases h.eq with e|⟨p,e⟩
  · rw [e]
  · rw [e,plcI_nat,plcI_nat,List.getElem?_append_left hk]
theorem Gw.ch {ps qs:List Plc} (h:Gw ps qs) {k:Nat} (hk:k<ps.length):chR qs (k:Int)=chR ps (k:Int):=by
  rcases h.eq with e|⟨p,e⟩
  · rw [e]
  · have h2:=h.wi2.wo
    have hp:=h.plc hk
    rw [e,List.map_append] at h2
    rw [chR,chR,hp,e,List.map_append]
    cases plcI ps (k:Int) with
    | none=>rfl
    | some q=>simp only [Int.toNat_natCast];rw [List.map_singleton,chL_snoc6 h.wi.wo h2 k (by simpa using hk)]
theorem Gw.cl {ps qs:List Plc} (h:Gw ps qs) {k:Nat} (hk:k<ps.length):clR qs (k:Int)=clR ps (k:Int):=by
  rw [clR,clR,h.plc hk]
theorem Gw.ext {ps qs:List Plc} (h:Gw ps qs) {k j:Nat} (hk:k<ps.length) (hj:j<ps.length):extI qs (k:Int) (j:Int)=extI ps (k:Int) (j:Int):=by
  rw [extI,extI,h.plc hk,h.plc hj]
  rcases h.eq with e|⟨p,e⟩
  · rw [e]
  · have h2:=h.wi2.wo
    rw [e,List.map_append] at h2
    rw [e,List.map_append,List.map_singleton,extB_snoc6 h.wi.wo h2 (by simpa using hk)]
theorem Gw.sp {ps qs:List Plc} (h:Gw ps qs) {k j:Nat} (hk:k<ps.length) (hj:j<ps.length):spI qs (k:Int) (j:Int)=spI ps (k:Int) (j:Int):=by
  rw [spI,spI,h.plc hk,h.plc hj]
def ClsA (c:Cls) (e:Ending) (w':World):Prop:=∃ ai ci am cm,e=.returned (.tuple #[.agg #[.string c.nm,.string c.su,.slice ai c.ifs.length ci,.int .i64 c.fl,.int .i64 c.ld,.slice am c.ms.length cm],.int .i64 0])∧IsStrs w' (.slice ai c.ifs.length ci) c.ifs∧IsMths w' (.slice am c.ms.length cm) c.ms
theorem strs_of {w:World} {N:Nat} {vi vm:Value} {qm:List (HM×Value)} {c:Cls} (h:OwnC w N vi c.ifs.length (strsV c.ifs) vm qm) (hq:qm.map Prod.fst=c.ms.map hmOf):(∃ ai ci,vi=.slice ai c.ifs.length ci)∧(∃ am cm,vm=.slice am c.ms.length cm)∧IsStrs w vi c.ifs∧IsMths w vm c.ms:=by
  have hlen:qm.length=c.ms.length:=by have:=congrArg List.length hq;simpa using this
  obtain ⟨a1,c1,e1⟩:=ownv h.ifs
  obtain ⟨a2,c2,e2⟩:=ownv h.ms
  exact ⟨⟨a1,c1,e1⟩,⟨a2,c2,by rw [e2,hlen]⟩,rds_strs (own_rds h.ifs),own_mths h hq⟩
theorem clsA_c {b:Nat} {ps:List Plc} {W:World} (h:WAt b ps W) (hB:∀ q∈ps,PlcB q) {k:Nat} {q:Plc} {c:Cls} (hq:plcI ps (k:Int)=some q) (hc:q.c=hcOf c):Calls Tryz.prog 13 #[.pointer (some ⟨b,0,none⟩),.int .i64 (k:Int)] W fun e w'=>ClsA c e w'∧Below W.heap.size W w':=by
  refine (class_c h hB (k:Int)).mono fun e w' zz=>⟨?_,zz.2⟩
  have z:=zz.1
  rw [hq] at z
  obtain ⟨vi,vm,qm,rfl,z2,z3⟩:=z
  rw [hc] at z2 z3
  obtain ⟨⟨a1,d1,rfl⟩,⟨a2,d2,rfl⟩,s1,s2⟩:=strs_of (c:=c) z2 z3
  exact ⟨a1,d1,a2,d2,by rw [hc];rfl,s1,s2⟩
set_option maxHeartbeats 4000000 in
theorem sameNums_rds (l:List Nat) (v1 v2:Value) (W:World) (h1:Rds W v1 l.length 1 (l.map numV)) (h2:Rds W v2 l.length 1 (l.map numV)) (hn:l.length≤1000000000):Calls Tryz.prog 17 #[v1,v2] W fun e w'=>e=.returned (.bool true)∧Below W.heap.size W w':=by
  have HC:Hid (∀ (v:Value),Rds W v l.length 1 (l.map numV)→(∃ a c,v=.slice a l.length c∧∀ (i x:Nat),l[i]?=some x→∃ bk o,a=some ⟨bk,o,none⟩∧bk<W.heap.size∧W.cell? ⟨bk,o+i,none⟩=some (.int .i64 (x:Int)))):=by
    intro v h
    rcases h.val with ⟨e1,e⟩|⟨bk,o,cap,e1,_,_,h3,h4⟩
    · refine ⟨none,0,by rw [e1,e],fun i x hx=>?_⟩
      rw [List.length_eq_zero_iff.1 e] at hx;simp at hx
    · exact ⟨some ⟨bk,o,none⟩,cap,e1,fun i x hx=>⟨bk,o,rfl,h3,h4 i _ (by rw [List.getElem?_map,hx];rfl)⟩⟩
  obtain ⟨a1,c1,rfl,k1⟩:=HC.out v1 h1
  obtain ⟨a2,c2,rfl,k2⟩:=HC.out v2 h2
  obtain ⟨K,hK⟩:∃ K,l.length=K:=⟨_,rfl⟩
  have HK:Hid (l.length=K):=hK
  have K1:Hid _:=k1
  have K2:Hid _:=k2
  rw [hK] at hn ⊢
  clear h1 h2 hK HC k1 k2
  go_enter Tryz.func17,Tryz.ntmps17
  go_wp2
  go_loopw [5] (fun iv wr=>∃ i:Nat,iv=.int .i64 i∧i≤K∧Hid (Below W.heap.size W wr)) (fun iv _=>K - (intOf iv).toNat)
  case atStart=>exact ⟨0,rfl,Nat.zero_le _,Below.refl _ _⟩
  case round =>
    obtain ⟨i,rfl,hi,hb⟩:=hrel
    by_cases hlt:i<K
    · obtain ⟨x,hx⟩:∃ x,l[i]?=some x:=⟨_,List.getElem?_eq_getElem (by rw [HK.out];exact hlt)⟩
      obtain ⟨g1,o1,rfl,l1,q1⟩:=K1.out i x hx
      obtain ⟨g2,o2,rfl,l2,q2⟩:=K2.out i x hx
      have hiI:(i:Int)<(K:Int):=by omega
      obtain ⟨σ,V,hne,V1,V2⟩:=class_of' (fun w'=>Below W.heap.size W w') ⟨_,Below.refl _ _⟩
      have kp:∀ (s:σ) (bb j:Nat) (v:Value),bb<W.heap.size→W.cell? ⟨bb,j,none⟩=some v→(V s).cell? ⟨bb,j,none⟩=some v:=fun s bb j v hl h=>((V1.out s).cell (p:=⟨bb,j,none⟩) hl).trans h
      replace q1:=fun s=>kp s _ _ _ l1 q1
      replace q2:=fun s=>kp s _ _ _ l2 q2
      clear hx K1 K2 kp
      go_wp2
      refine wp_region_class (C:=fun w'=>∃ s,w'=V s) (by kernel_rfl) (by kernel_rfl) (V2.out _ (hb.out.drew)) ?_
      repeat (go_big_quiet_step (fail))
      refine wpQuiet_nil ?_
      intro w9 hw9
      obtain ⟨s9,rfl⟩:=hw9
      have B9:Hid (Below W.heap.size W (V s9)):=V1.out s9
      go_wp2
      go_roundw
      case rel=>exact ⟨i+1,by go_num,by omega,B9⟩
      case measure=>simp [intOf];omega
    · have hiI:¬ (i:Int)<(K:Int):=by omega
      go_wp2
      exact bodyPost_ret (results_tmp rfl _ _ _) rfl ⟨rfl,hb.out⟩
theorem hkeep {w:World} {n:Nat} {x o:Obj} (h:w.heap[n]?=some x):(w.alloc o).heap[n]?=some x:=by
  have hb:Below w.heap.size w (w.alloc o):=(Below.refl _ w).alloc (Nat.le_refl _) _
  exact (hb.block n (Array.getElem?_eq_some_iff.1 h).1).trans h
theorem rw6 {w:World} {n:Nat} {t:TypeId} {a0 a1 a2 a3 a4 a5:Value} (h:w.heap[n]?=some (.cells #[a0,a1,a2,a3,a4,a5] t (0,0))):w.cell? ⟨n,0,none⟩=some a0∧w.cell? ⟨n,1,none⟩=some a1∧w.cell? ⟨n,2,none⟩=some a2∧w.cell? ⟨n,3,none⟩=some a3∧w.cell? ⟨n,4,none⟩=some a4∧w.cell? ⟨n,5,none⟩=some a5∧(∀ k,w.frozen? ⟨n,k,none⟩=false)∧n<w.heap.size :=
  ⟨(cell_of_row w n 0 _ _ _ h).trans rfl,(cell_of_row w n 1 _ _ _ h).trans rfl,(cell_of_row w n 2 _ _ _ h).trans rfl,(cell_of_row w n 3 _ _ _ h).trans rfl,(cell_of_row w n 4 _ _ _ h).trans rfl,(cell_of_row w n 5 _ _ _ h).trans rfl,fun k=>frozen_of_row w n k _ _ h,(Array.getElem?_eq_some_iff.1 h).1⟩
theorem kp6 {V w:World} {N n:Nat} {t:TypeId} {a0 a1 a2 a3 a4 a5:Value} (hb:Below N V w) (hn:n<N:=by first|omega|(simp;try omega)) (h:V.heap[n]?=some (.cells #[a0,a1,a2,a3,a4,a5] t (0,0)):=by first|exact Hid.out (by assumption)|exact hkeep (Hid.out (by assumption))|exact hkeep (hkeep (Hid.out (by assumption)))|exact halloc2 _ _ rfl|exact hkeep (halloc2 _ _ rfl)|exact hkeep (hkeep (halloc2 _ _ rfl))|exact halloc2 _ _ (by simp;done)):Hid (w.heap[n]?=some (.cells #[a0,a1,a2,a3,a4,a5] t (0,0)))∧w.cell? ⟨n,0,none⟩=some a0∧w.cell? ⟨n,1,none⟩=some a1∧w.cell? ⟨n,2,none⟩=some a2∧w.cell? ⟨n,3,none⟩=some a3∧w.cell? ⟨n,4,none⟩=some a4∧w.cell? ⟨n,5,none⟩=some a5∧(∀ k,w.frozen? ⟨n,k,none⟩=false)∧n<w.heap.size∧¬ n=w.heap.size:=by
  have h2:=(hb.block n hn).trans h
  obtain ⟨c0,c1,c2,c3,c4,c5,f,l⟩:=rw6 h2
  exact ⟨h2,c0,c1,c2,c3,c4,c5,f,l,by omega⟩
end Go.Proofs.YtfjekhmnjfcbeaaGreat
