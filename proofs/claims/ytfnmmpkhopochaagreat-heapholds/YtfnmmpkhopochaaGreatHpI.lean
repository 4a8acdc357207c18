import Derived.Test.YtfnmmpkhopochaaGreatHrOi
import Derived.Test.YtfnmmpkhopochaaGreatHrY
import Derived.Test.YtfnmmpkhopochaaGreatHpD
import Derived.Test.YtfnmmpkhopochaaGreatHpT
set_option maxRecDepth 100000
namespace Go.Proofs.YtfnmmpkhopochaaGreat
open Go.RowKit Go.Maps
def wld (l:List Cls):List Plc:=l.foldl (fun ps c=>dfP ps (defN ps c)) P3
theorem wld_snoc (l:List Cls) (c:Cls):wld (l++[c])=dfP (wld l) (defN (wld l) c):=by
  rw [wld,List.foldl_append];rfl
theorem wld_at {l:List Cls} {i:Nat} {c:Cls} (h:l[i]?=some c):wld (l.take (i+1))=dfP (wld (l.take i)) (defN (wld (l.take i)) c):=by
  rw [List.take_add_one,h];exact wld_snoc _ _
theorem wld_ind {P:List Plc→Prop} (h3:P P3) (hd:∀ ps c,P ps→ClsW c→P (dfP ps (defN ps c))):∀ l:List Cls,(∀ c∈l,ClsW c)→P (wld l):=by
  have key:∀ (l:List Cls) (ps:List Plc),(∀ c∈l,ClsW c)→P ps→P (l.foldl (fun ps c=>dfP ps (defN ps c)) ps):=by
    intro l
    induction l with
    | nil=>exact fun ps _ h=>h
    | cons c l ih=>exact fun ps hl h=>ih _ (fun x hx=>hl x (List.mem_cons_of_mem _ hx)) (hd ps c h (hl c (by simp)))
  exact fun l hl=>key l P3 hl h3
theorem wld_wi (l:List Cls) (hl:∀ c∈l,ClsW c):WI (wld l):=wld_ind wi3 (fun _ c h hc=>h.define c hc) l hl
theorem clss_w {w:World} {v:Value} {l:List Cls} (h:IsClss w v l):∀ c∈l,ClsW c:=by
  obtain ⟨ao,cap,e,h1,h2,h3⟩:=h
  intro c hc
  obtain ⟨bk,o,_,_,h4⟩:=h3 (fun e=>by rw [e] at hc;simp at hc)
  obtain ⟨i,hi⟩:=List.mem_iff_getElem?.1 hc
  obtain ⟨vi,vm,_,hin⟩:=h4 i c hi
  exact hin.ok
def extI (ps:List Plc) (a b:Int):Bool:=(plcI ps a).isSome&&(plcI ps b).isSome&&extB (ps.map nd) a.toNat b.toNat
theorem extends_no {b:Nat} {ps:List Plc} {W:World} (h:WAt b ps W) (x y:Int) (hxy:plcI ps x=none∨plcI ps y=none):Calls Tryz.prog 107 #[.pointer (some ⟨b,0,none⟩),.int .i64 x,.int .i64 y] W fun e w'=>e=.returned (.bool false)∧Below W.heap.size W w':=by
  have HX:Hid (∀ i z w,Below W.heap.size W w→plcI ps i=z→Calls Tryz.prog 76 #[.pointer (some ⟨b,0,none⟩),.int .i64 i] w fun e w'=>e=.returned (.bool z.isSome)∧w'=w):=fun i z w hb hi=>by
    have:=has_c (h.below hb) i
    rw [hi] at this;exact this
  clear h
  generalize hpx:plcI ps x=px at *
  generalize hpy:plcI ps y=py at *
  have HPX:Hid _:=hpx
  have HPY:Hid _:=hpy
  clear hpx hpy
  cases px with
  | none =>
    go_enter Tryz.func107,Tryz.ntmps107
    go_wp2_with (go_at_call 76;refine (HX.out _ _ _ (by repeat (first|exact Below.refl _ _|refine Below.setCell ?_ (by simp;try omega) _|refine Below.alloc ?_ (by simp;try omega) _|refine Below.drew ?_)) HPX.out).mono ?_;rintro e w9 ⟨rfl,hw9⟩;rw [hw9];clear hw9 w9)
    refine bodyPost_ret (v:=.bool false) (by simp [results,Tryz.results107,go_sem]) rfl ⟨rfl,(by repeat (first|exact Below.refl _ _|refine Below.setCell ?_ (by simp;try omega) _|refine Below.alloc ?_ (by simp;try omega) _|refine Below.drew ?_))⟩
  | some p =>
    obtain rfl:py=none:=hxy.resolve_left (by simp)
    clear hxy
    have HX1:Hid (∀ i w,Below W.heap.size W w→i=x→Calls Tryz.prog 76 #[.pointer (some ⟨b,0,none⟩),.int .i64 i] w fun e w'=>e=.returned (.bool true)∧w'=w):=fun i w hb hi=>by rw [hi];exact HX.out x _ w hb HPX.out
    have HY1:Hid (∀ i w,Below W.heap.size W w→i=y→Calls Tryz.prog 76 #[.pointer (some ⟨b,0,none⟩),.int .i64 i] w fun e w'=>e=.returned (.bool false)∧w'=w):=fun i w hb hi=>by rw [hi];exact HX.out y _ w hb HPY.out
    go_enter Tryz.func107,Tryz.ntmps107
    go_wp2_with (first
      | (go_at_call 76;refine (HX1.out _ _ (by repeat (first|exact Below.refl _ _|refine Below.setCell ?_ (by simp;try omega) _|refine Below.alloc ?_ (by simp;try omega) _|refine Below.drew ?_)) (by rfl)).mono ?_;rintro e w9 ⟨rfl,hw9⟩;rw [hw9];clear hw9 w9)
      | (go_at_call 76;refine (HY1.out _ _ (by repeat (first|exact Below.refl _ _|refine Below.setCell ?_ (by simp;try omega) _|refine Below.alloc ?_ (by simp;try omega) _|refine Below.drew ?_)) (by rfl)).mono ?_;rintro e w9 ⟨rfl,hw9⟩;rw [hw9];clear hw9 w9))
    refine bodyPost_ret (v:=.bool false) (by simp [results,Tryz.results107,go_sem]) rfl ⟨rfl,(by repeat (first|exact Below.refl _ _|refine Below.setCell ?_ (by simp;try omega) _|refine Below.alloc ?_ (by simp;try omega) _|refine Below.drew ?_))⟩
theorem extends_c {b:Nat} {ps:List Plc} {W:World} (h:WAt b ps W) (hi:WI ps) (x y:Int):Calls Tryz.prog 107 #[.pointer (some ⟨b,0,none⟩),.int .i64 x,.int .i64 y] W fun e w'=>e=.returned (.bool (extI ps x y))∧Below W.heap.size W w':=by
  rcases plcI_cases ps x with ⟨h1,_⟩|⟨k,p,rfl,h2,h1⟩
  · have e:extI ps x y=false:=by rw [extI,h1];rfl
    rw [e];exact extends_no h x y (.inl h1)
  · rcases plcI_cases ps y with ⟨g1,_⟩|⟨j,q,rfl,g2,g1⟩
    · have e:extI ps k y=false:=by rw [extI,h1,g1];rfl
      rw [e];exact extends_no h k y (.inr g1)
    · have e:extI ps k j=extB (ps.map nd) k j:=by rw [extI,h1,g1];rfl
      obtain ⟨N,mb,vp,pv,h⟩:=h
      rw [e];exact extends_yes N b mb ps vp pv k j (List.getElem?_eq_some_iff.1 h2).1 (List.getElem?_eq_some_iff.1 g2).1 hi.wo hi.hi W h
def ClsR (n:Nat):Option Plc→Ending→World→Prop
  | none,e,_=>e=.returned (.tuple #[.agg #[.string ⟨#[]⟩,.string ⟨#[]⟩,.slice none 0 0,.int .i64 0,.int .i64 0,.slice none 0 0],.int .i64 3])
  | some q,e,w'=>∃ vi vm qm,e=.returned (.tuple #[.agg #[.string q.c.nm,.string q.c.su,vi,.int .i64 q.c.fl,.int .i64 q.c.ld,vm],.int .i64 0])∧OwnC w' n vi q.c.ni q.c.xi vm qm∧qm.map Prod.fst=q.c.ms
theorem class_c {b:Nat} {ps:List Plc} {W:World} (h:WAt b ps W) (hB:∀ q∈ps,PlcB q) (x:Int):Calls Tryz.prog 41 #[.pointer (some ⟨b,0,none⟩),.int .i64 x] W fun e w'=>ClsR W.heap.size (plcI ps x) e w'∧Below W.heap.size W w':=by
  obtain ⟨N,mb,vp,pv,h⟩:=h
  rcases plcI_cases ps x with ⟨h1,h2⟩|⟨k,p,rfl,h2,h1⟩
  · rw [h1];exact class_no N b mb ps vp pv x W h h2
  · rw [h1]
    refine (class_yes N b mb ps vp pv k p W h h2 (hB p (List.mem_of_getElem? h2))).mono ?_
    rintro e w' ⟨vi,vm,qm,h1,h2,h3,h4⟩
    exact ⟨⟨vi,vm,qm,h1,h2,h3⟩,h4⟩
def bnV:Option Nat→Value
  | some j=>.tuple #[.int .i64 (j:Int),.int .i64 0]
  | none=>.tuple #[.int .i64 0,.int .i64 6]
theorem byName_c {b:Nat} {ps:List Plc} {W:World} (h:WAt b ps W) (nm:ByteArray) (hnz:nm.size≤maxLen):Calls Tryz.prog 72 #[.pointer (some ⟨b,0,none⟩),.string nm] W fun e w'=>e=.returned (bnV (lookL ps nm.data.toList))∧Below W.heap.size W w':=by
  obtain ⟨N,mb,vp,pv,h⟩:=h
  refine (byName_look N b mb ps vp pv nm hnz W h).mono ?_
  rintro e w' ⟨rfl,hb⟩
  exact ⟨by cases lookL ps nm.data.toList <;> rfl,hb⟩
def HpN (S:Nat→Prop) (W w':World) (hb b:Nat) (os:List Ob):Prop:=(∃ v',HpAt w' (gS S W.heap.size w'.heap.size) hb b v' os)∧Tch S W w'
theorem HpAt.stay {W w':World} {S:Nat→Prop} {hb b:Nat} {ov:Value} {os:List Ob} (h:HpAt W S hb b ov os) (hl:Below W.heap.size W w'):HpN S W w' hb b os :=
  ⟨⟨ov,(h.below hl).mono (fun k hk=>hk.elim (fun x=>(h.below hl).sz k x) (fun x=>x.2)) (fun _ _ x=>.inl x)⟩,(Tch.refl S W).bel hl⟩
theorem HpN.pre {S:Nat→Prop} {W0 W w':World} {hb b:Nat} {os:List Ob} (h:HpN S W w' hb b os) (hl:Below W0.heap.size W0 W):HpN S W0 w' hb b os:=by
  obtain ⟨⟨v,h1⟩,h2⟩:=h
  have hz:=hl.size
  exact ⟨⟨v,h1.mono (fun k hk=>hk.elim (fun x=>h1.sz k (.inl x)) (fun x=>x.2)) (fun k _ hk=>hk.imp id (fun x=>⟨by omega,x.2⟩))⟩,((Tch.refl S W0).bel hl).trans h2 (fun _ _ x=>x)⟩
theorem lnew_h (b:Nat) (W:World):Calls Tryz.prog 27 #[.pointer (some ⟨b,0,none⟩)] W fun e w'=>e=.returned (.tuple #[.pointer (some ⟨W.heap.size+1,0,none⟩),.int .i64 0])∧w'.cell? ⟨W.heap.size+1,0,none⟩=some (.pointer (some ⟨b,0,none⟩))∧W.heap.size+2≤w'.heap.size∧Below W.heap.size W w':=by
  have hmm:=@run_makeMap Tryz.prog
  go_enter Tryz.func27,Tryz.ntmps27
  go_wp2
  go_ret2
  exact ⟨by simp,by simp,by simp,((Below.refl _ _).alloc (Nat.le_refl _) _).alloc (by simp) _⟩
theorem lwld_h (lb:Nat) (x:Value) (W:World) (h:W.cell? ⟨lb,0,none⟩=some x):Calls Tryz.prog 50 #[.pointer (some ⟨lb,0,none⟩)] W fun e w'=>e=.returned x∧w'=W:=by
  go_enter Tryz.func50,Tryz.ntmps50
  go_wp2
  go_ret
  exact ⟨rfl,rfl⟩
theorem hnew_c (lb b:Nat) (W:World) (h:W.cell? ⟨lb,0,none⟩=some (.pointer (some ⟨b,0,none⟩))):Calls Tryz.prog 24 #[.pointer (some ⟨lb,0,none⟩)] W fun e w'=>e=.returned (.tuple #[.pointer (some ⟨W.heap.size,0,none⟩),.int .i64 0])∧HpAt w' (fun k=>k=W.heap.size) W.heap.size b (.slice none 0 0) []∧Below W.heap.size W w'∧w'.heap.size=W.heap.size+1:=by
  have HL:Hid (Calls Tryz.prog 50 #[.pointer (some ⟨lb,0,none⟩)] W fun e w'=>e=.returned (.pointer (some ⟨b,0,none⟩))∧w'=W):=lwld_h lb _ W h
  go_enter Tryz.func24,Tryz.ntmps24
  go_wp2_with (go_at_call 50;refine HL.out.mono ?_;rintro e w' ⟨rfl,rfl⟩)
  go_ret2
  refine ⟨rfl,⟨fun k hk=>by rw [hk];simp,rfl,fun k hk=>by simp [Value.ownBlock] at hk,fun o ho=>by simp at ho,?_,World.ownsRow_nil _ _ _ _,fun o ho=>by simp at ho,fun o ho=>by simp at ho,fun i j o p g hi=>by simp at hi,by simp,by simp [wdL]⟩,(Below.refl _ _).alloc (Nat.le_refl _) _,by simp⟩
  exact halloc1 _ _
def absB (fl:Int):Bool:=bits .and .i64 fl 1536 != 0
def obnE (ps:List Plc) (os:List Ob) (x:Int):Int:=match plcI ps x with
  | none=>3
  | some q=>if absB q.c.fl then 34 else if 1000≤os.length then 32 else 0
def obnN (ps:List Plc) (os:List Ob) (x:Int):Int:=if obnE ps os x=0 then (os.length:Int)+1 else 0
def obnL (ps:List Plc) (os:List Ob) (x:Int):List Ob:=match plcI ps x with
  | none=>os
  | some q=>if obnE ps os x=0 then os++[⟨0,q.c.nm,none,[]⟩] else os
theorem object_no {W:World} {S:Nat→Prop} {hb b:Nat} {ov:Value} {os:List Ob} (h:HpAt W S hb b ov os) (x:Int)
    (HC:Hid (Calls Tryz.prog 41 #[.pointer (some ⟨b,0,none⟩),.int .i64 x] W fun e w'=>e=.returned (.tuple #[.agg #[.string ⟨#[]⟩,.string ⟨#[]⟩,.slice none 0 0,.int .i64 0,.int .i64 0,.slice none 0 0],.int .i64 3])∧Below W.heap.size W w')) :
    Calls Tryz.prog 14 #[.pointer (some ⟨hb,0,none⟩),.int .i64 x] W fun e w'=>e=.returned (.tuple #[.int .i64 0,.int .i64 3])∧Below W.heap.size W w':=by
  obtain ⟨c0,c1,c2,fz,hl⟩:=h.cells
  clear h
  go_enter Tryz.func14,Tryz.ntmps14
  go_wp2_with (go_at_call 41;refine HC.out.mono ?_;rintro e w1 ⟨rfl,hb⟩;have B1:Hid (Below W.heap.size W w1):=hb;clear hb HC)
  go_ret2
  exact ⟨rfl,B1.out.alloc B1.out.size _⟩
set_option maxHeartbeats 1000000 in
theorem object_some {W:World} {S:Nat→Prop} {hb b:Nat} {ov:Value} {os:List Ob} (h:HpAt W S hb b ov os) (x:Int) (nm su:ByteArray) (fl ld:Int)
    (HC:Hid (Calls Tryz.prog 41 #[.pointer (some ⟨b,0,none⟩),.int .i64 x] W fun e w'=>∃ ai ni ci am nm2 cm,e=.returned (.tuple #[.agg #[.string nm,.string su,.slice ai ni ci,.int .i64 fl,.int .i64 ld,.slice am nm2 cm],.int .i64 0])∧Below W.heap.size W w')) :
    Calls Tryz.prog 14 #[.pointer (some ⟨hb,0,none⟩),.int .i64 x] W fun e w'=>(absB fl=true∧e=.returned (.tuple #[.int .i64 0,.int .i64 34])∧Below W.heap.size W w')∨(absB fl=false∧1000≤os.length∧e=.returned (.tuple #[.int .i64 0,.int .i64 32])∧Below W.heap.size W w')∨(absB fl=false∧os.length<1000∧e=.returned (.tuple #[.int .i64 ((os.length:Int)+1),.int .i64 0])∧HpN S W w' hb b (os++[⟨0,nm,none,[]⟩])):=by
  obtain ⟨c0,c1,c2,fz,hl⟩:=h.cells
  obtain ⟨a,c,hov⟩:=ownv h.ow
  have HA:Hid (∀ w,Below W.heap.size W w→os.length<1000→Calls Tryz.prog 42 #[.pointer (some ⟨hb,0,none⟩),.agg #[.int .i64 0,.string nm,.slice none 0 0]] w fun e w'=>e=.returned (.int .i64 ((os.length:Int)+1))∧HpN S w w' hb b (os++[⟨0,nm,none,[]⟩])):=fun w hw hn=>by
    refine (add_c (h.below hw) ⟨0,nm,none,[]⟩ hn (by have:=h.n2;simpa using this) (fun _=>rfl) (fun g hg=>by cases hg)).mono ?_
    rintro e w' ⟨h1,h2,h3⟩
    exact ⟨h1,h2,h3⟩
  rw [hov] at c1
  have hn1:=h.n1
  clear h hov fz c2
  obtain ⟨n,hN⟩:∃ n,os.length=n:=⟨_,rfl⟩
  rw [hN] at c1 hn1 HA ⊢
  clear hN
  cases hA:absB fl with
  | true =>
    have g1:(bits .and .i64 fl 1536 != 0)=true:=hA
    have g2:¬ bits .and .i64 fl 1536=0:=by simpa using g1
    clear hA g1
    go_enter Tryz.func14,Tryz.ntmps14
    go_wp2_with (go_at_call 41;refine HC.out.mono ?_;rintro e w1 ⟨ai,ni,ci,am,nm2,cm,rfl,hB⟩;have B1:Hid (Below W.heap.size W w1):=hB;clear hB HC)
    go_ret2
    exact .inl ⟨by first|rfl|trivial,rfl,B1.out.alloc B1.out.size _⟩
  | false =>
    have g1:(bits .and .i64 fl 1536 != 0)=false:=hA
    have g2:bits .and .i64 fl 1536=0:=by simpa using g1
    clear hA g1
    by_cases h3:n<1000
    · have h4:¬ (1000:Int)≤(n:Int):=by omega
      go_enter Tryz.func14,Tryz.ntmps14
      go_wp2_with (first
        | (go_at_call 41;refine HC.out.mono ?_;rintro e w1 ⟨ai,ni,ci,am,nm2,cm,rfl,hB⟩;have B1:Hid (Below W.heap.size W w1):=hB;have y1:=(hB.cell (p:=⟨hb,1,none⟩) hl).trans c1;have yl:hb<w1.heap.size:=(by have:=hB.size;omega);have yn:¬ hb=w1.heap.size:=(by omega);clear hB HC)
        | (go_at_call 42;refine (HA.out _ (B1.out.alloc B1.out.size _) h3).mono ?_;rintro e w2 ⟨rfl,hn⟩;have N2:Hid _:=hn.pre (B1.out.alloc B1.out.size _);clear hn))
      go_ret2
      exact .inr (.inr ⟨by first|rfl|trivial,h3,rfl,N2.out⟩)
    · have h4:(1000:Int)≤(n:Int):=by omega
      go_enter Tryz.func14,Tryz.ntmps14
      go_wp2_with (go_at_call 41;refine HC.out.mono ?_;rintro e w1 ⟨ai,ni,ci,am,nm2,cm,rfl,hB⟩;have B1:Hid (Below W.heap.size W w1):=hB;have y1:=(hB.cell (p:=⟨hb,1,none⟩) hl).trans c1;have yl:hb<w1.heap.size:=(by have:=hB.size;omega);have yn:¬ hb=w1.heap.size:=(by omega);clear hB HC)
      go_ret2
      exact .inr (.inl ⟨by first|rfl|trivial,by omega,rfl,B1.out.alloc B1.out.size _⟩)
theorem object_c {W:World} {S:Nat→Prop} {hb b:Nat} {ov:Value} {os:List Ob} (h:HpAt W S hb b ov os) {ps:List Plc} (hw:WAt b ps W) (hB:∀ q∈ps,PlcB q) (x:Int) :
    Calls Tryz.prog 14 #[.pointer (some ⟨hb,0,none⟩),.int .i64 x] W fun e w'=>e=.returned (.tuple #[.int .i64 (obnN ps os x),.int .i64 (obnE ps os x)])∧HpN S W w' hb b (obnL ps os x):=by
  have hc:=class_c hw hB x
  cases hq:plcI ps x with
  | none =>
    rw [hq] at hc
    have e1:obnE ps os x=3:=by rw [obnE,hq]
    have e2:obnN ps os x=0:=by rw [obnN,e1];rfl
    have e3:obnL ps os x=os:=by rw [obnL,hq]
    rw [e1,e2,e3]
    exact (object_no h x hc).mono fun e w' ⟨h1,h2⟩=>⟨h1,h.stay h2⟩
  | some q =>
    rw [hq] at hc
    refine (object_some h x q.c.nm q.c.su q.c.fl q.c.ld (hc.mono fun e w' ⟨⟨vi,vm,qm,h1,h2,h3⟩,h4⟩=>?_)).mono fun e w' hh=>?_
    · obtain ⟨ai,ci,rfl⟩:=ownv h2.ifs
      obtain ⟨am,cm,rfl⟩:=ownv h2.ms
      exact ⟨ai,_,ci,am,_,cm,h1,h4⟩
    · rcases hh with ⟨a1,a2,a3⟩|⟨a1,a2,a3,a4⟩|⟨a1,a2,a3,a4⟩
      · have e1:obnE ps os x=34:=by rw [obnE,hq];simp [a1]
        have e2:obnN ps os x=0:=by rw [obnN,e1];rfl
        have e3:obnL ps os x=os:=by rw [obnL,hq];simp [e1]
        rw [e1,e2,e3]
        exact ⟨a2,h.stay a3⟩
      · have e1:obnE ps os x=32:=by rw [obnE,hq];simp [a1,a2]
        have e2:obnN ps os x=0:=by rw [obnN,e1];rfl
        have e3:obnL ps os x=os:=by rw [obnL,hq];simp [e1]
        rw [e1,e2,e3]
        exact ⟨a3,h.stay a4⟩
      · have e1:obnE ps os x=0:=by rw [obnE,hq];simp [a1,a2]
        have e2:obnN ps os x=(os.length:Int)+1:=by rw [obnN,e1];rfl
        have e3:obnL ps os x=os++[⟨0,q.c.nm,none,[]⟩]:=by rw [obnL,hq];simp [e1]
        rw [e1,e2,e3]
        exact ⟨a3,a4⟩
def szC:List Nat→Nat
  | []=>0
  | c::r=>1+c * szC r
def wdC:List Nat→Nat
  | []=>0
  | c::r=>c+c * wdC r
def CsAt (w:World) (g o:Nat) (cs:List Nat):Prop:=∀ i x:Nat,cs[i]?=some x→w.cell? ⟨g,o+i,none⟩=some (.int .i64 (x:Int))
theorem CsAt.keep {w w':World} {g o:Nat} {cs:List Nat} (h:CsAt w g o cs) (hk:w'.heap[g]?=w.heap[g]?):CsAt w' g o cs:=fun i x hx=>by
  rw [← h i x hx]
  exact World.cell?_of_block hk
theorem CsAt.drop {w:World} {g o c:Nat} {cs:List Nat} (h:CsAt w g o (c::cs)):CsAt w g (o+1) cs:=fun i x hx=>by
  have:=h (i+1) x (by simpa using hx)
  rw [show o+1+i=o+(i+1) by omega];exact this
def rmB (os:List Ob) (cs:List Nat):Bool:=decide (os.length+szC cs≤1000)&&decide (wdL os+wdC cs≤20000)
theorem sz_at {cs:List Nat} {i c:Nat} (h:cs[i]?=some c):szC (cs.drop i)=1+c * szC (cs.drop (i+1)):=by
  obtain ⟨h1,h2⟩:=List.getElem?_eq_some_iff.1 h
  rw [List.drop_eq_getElem_cons h1,h2,szC]
theorem wd_at {cs:List Nat} {i c:Nat} (h:cs[i]?=some c):wdC (cs.drop i)=c+c * wdC (cs.drop (i+1)):=by
  obtain ⟨h1,h2⟩:=List.getElem?_eq_some_iff.1 h
  rw [List.drop_eq_getElem_cons h1,h2,wdC]
set_option maxHeartbeats 2000000 in
theorem room_w {W:World} {hb n wd g o cap N:Nat} {a:Option Addr} {c:Nat} (cs:List Nat) (hn:n≤1000) (hw:wd≤20000) (HN:Hid (cs.length=N)) (hN:N≤1000000) (HC:Hid (CsAt W g o cs))
    (c1:W.cell? ⟨hb,1,none⟩=some (.slice a n c)) (c2:W.cell? ⟨hb,2,none⟩=some (.int .i64 (wd:Int))) :
    Calls Tryz.prog 73 #[.pointer (some ⟨hb,0,none⟩),.slice (some ⟨g,o,none⟩) N cap] W fun e w'=>e=.returned (.bool (decide (n+szC cs≤1000)&&decide (wd+wdC cs≤20000)))∧Below W.heap.size W w':=by
  go_enter Tryz.func73,Tryz.ntmps73
  go_upto_region 1 with fail
  go_region
  all_goals go_wp2
  all_goals
    go_loopw [5,6,7,23] (fun rv qv mv iv wr=>∃ i A B M:Nat,iv=.int .i64 i∧i≤N∧rv=.int .i64 ((1000 - n - A:Nat):Int)∧qv=.int .i64 ((20000 - wd - B:Nat):Int)∧mv=.int .i64 (M:Int)∧n+A≤1000∧wd+B≤20000∧M≤20000∧Hid (A+M * szC (cs.drop i)=szC cs)∧Hid (B+M * wdC (cs.drop i)=wdC cs)∧Below W.heap.size W wr) (fun _ _ _ iv _=>N - (intOf iv).toNat)
    case atStart=>exact ⟨0,0,0,1,rfl,Nat.zero_le _,by go_num,by go_num,rfl,by omega,by omega,by omega,(by rw [Hid];simp),(by rw [Hid];simp),(Below.refl _ _).drew⟩
    case round =>
      obtain ⟨i,A,B,M,rfl,hi,rfl,rfl,rfl,hA,hB,hM,HA,HB,hbl⟩:=hrel
      have HBL:Hid (Below W.heap.size W wr):=hbl
      obtain ⟨r,hr⟩:∃ r,1000 - n - A=r:=⟨_,rfl⟩
      obtain ⟨q,hq⟩:∃ q,20000 - wd - B=q:=⟨_,rfl⟩
      rw [hr,hq]
      have hr2:n+A+r=1000:=by omega
      have hq2:wd+B+q=20000:=by omega
      clear hr hq hbl
      by_cases hlt:i<N
      · obtain ⟨x,hx⟩:∃ x,cs[i]?=some x:=⟨_,List.getElem?_eq_getElem (by rw [HN.out];exact hlt)⟩
        have y0:=HC.out i x hx
        have y:wr.cell? ⟨g,o+i,none⟩=some (.int .i64 (x:Int)):=(HBL.out.cell (p:=⟨g,o+i,none⟩) (World.block_lt_of_cell? W _ y0)).trans y0
        have HS:=sz_at hx
        have HWd:=wd_at hx
        have hltI:(i:Int)<(N:Int):=by omega
        clear y0 hx HC
        by_cases h1:r<M
        · have RES:Hid (decide (n+szC cs≤1000)=false):=by
            rw [Hid,decide_eq_false_iff_not,← HA.out,HS,Nat.mul_add];omega
          have h1I:(r:Int)<(M:Int):=by omega
          clear HS HWd HA HB HN
          go_wp2
          go_ret
          exact ⟨by rw [RES.out];rfl,HBL.out⟩
        · have h1I:¬ (r:Int)<(M:Int):=by omega
          by_cases h0:M=0
          · subst h0
            have HZ:Hid (A+0 * szC (cs.drop (i+1))=szC cs):=by rw [Hid,← HA.out];simp
            have HY:Hid (B+0 * wdC (cs.drop (i+1))=wdC cs):=by rw [Hid,← HB.out];simp
            clear HS HWd HA HB HN
            go_wp2
            go_roundw
            case rel=>exact ⟨i+1,A,B,0,by go_num,by omega,by rw [show 1000 - n - A=r by omega],by rw [show 20000 - wd - B=q by omega],rfl,hA,hB,by omega,HZ,HY,HBL.out⟩
            case measure=>simp [intOf];omega
          · have h0I:(0:Int)<(M:Int):=by omega
            have hdv:(q:Int).tdiv (M:Int)=((q / M:Nat):Int):=rfl
            by_cases h2:q / M<x
            · have h2I:((q / M:Nat):Int)<(x:Int):=by omega
              have RES:Hid (decide (wd+wdC cs≤20000)=false):=by
                have h3:q<M * x:=by rw [Nat.mul_comm];exact (Nat.div_lt_iff_lt_mul (by omega)).1 h2
                rw [Hid,decide_eq_false_iff_not,← HB.out,HWd,Nat.mul_add];omega
              obtain ⟨z,hz⟩:∃ z,q / M=z:=⟨_,rfl⟩
              have hzb:z≤20000:=by rw [← hz];exact Nat.le_trans (Nat.div_le_self _ _) (by omega)
              rw [hz] at hdv h2I
              clear HS HWd HA HB HN hz h2
              go_wp2
              go_ret
              exact ⟨by rw [RES.out];simp,HBL.out⟩
            · have h3:M * x≤q:=by rw [Nat.mul_comm];exact (Nat.le_div_iff_mul_le (by omega)).1 (by omega)
              obtain ⟨P,hP⟩:∃ P,M * x=P:=⟨_,rfl⟩
              have HZ:Hid (A+M+P * szC (cs.drop (i+1))=szC cs):=by rw [Hid,← HA.out,HS,Nat.mul_add,← hP,Nat.mul_assoc];omega
              have HY:Hid (B+P+P * wdC (cs.drop (i+1))=wdC cs):=by rw [Hid,← HB.out,HWd,Nat.mul_add,← hP,Nat.mul_assoc];omega
              have hPI:(M:Int) * (x:Int)=(P:Int):=by rw [← hP];exact (Int.natCast_mul M x).symm
              have h2I:¬ ((q / M:Nat):Int)<(x:Int):=by omega
              obtain ⟨z,hz⟩:∃ z,q / M=z:=⟨_,rfl⟩
              have hzb:z≤20000:=by rw [← hz];exact Nat.le_trans (Nat.div_le_self _ _) (by omega)
              rw [hz] at hdv h2I
              rw [hP] at h3
              clear HS HWd HA HB HN hz h2 hP
              go_wp2
              go_roundw
              case rel=>exact ⟨i+1,A+M,B+P,P,by go_num,by omega,by rw [show ((1000 - n - (A+M):Nat):Int)=(r:Int) - (M:Int) by omega],by rw [show ((20000 - wd - (B+P):Nat):Int)=(q:Int) - (P:Int) by omega],by first|rfl|go_num,by omega,by omega,by omega,HZ,HY,HBL.out⟩
              case measure=>simp [intOf];omega
      · obtain rfl:i=N:=by omega
        have hltI:¬ (i:Int)<(i:Int):=by omega
        have e0:cs.drop i=[]:=List.drop_eq_nil_of_le (by rw [HN.out];exact Nat.le_refl _)
        have RES:Hid ((decide (n+szC cs≤1000)&&decide (wd+wdC cs≤20000))=true):=by
          have a:=HA.out
          have b:=HB.out
          rw [e0] at a b
          simp only [szC,wdC,Nat.mul_zero,Nat.add_zero] at a b
          rw [Hid,Bool.and_eq_true,decide_eq_true_eq,decide_eq_true_eq];omega
        clear HA HB HC e0 HN
        go_wp2
        go_ret
        exact ⟨by rw [RES.out];rfl,HBL.out⟩
abbrev PO:=Int×ByteArray×List Int
def Ob.p (o:Ob):PO:=(o.d,o.nm,o.xs)
def filP (nm:ByteArray):Int→List Nat→Nat→List PO
  | _,[],_=>[]
  | d,c::cs,n=>(d,nm,(List.range c).map fun i=>if cs=[] then (0:Int) else ((n+2+i * szC cs:Nat):Int))::(List.range c).flatMap fun i=>filP nm (d - 1) cs (n+1+i * szC cs)
theorem flatMap_len {α:Type} (f:Nat→List α) (s:Nat) (h:∀ i,(f i).length=s):∀ c,((List.range c).flatMap f).length=c * s
  | 0=>by simp
  | c+1=>by rw [List.range_succ,List.flatMap_append,List.length_append,flatMap_len f s h c];simp [h,Nat.succ_mul]
theorem filP_len (nm:ByteArray):∀ (cs:List Nat) (d:Int) (n:Nat),(filP nm d cs n).length=szC cs
  | [],_,_=>rfl
  | c::cs,d,n=>by
    rw [filP,List.length_cons,flatMap_len _ (szC cs) (fun i=>filP_len nm cs (d - 1) _) c,szC];omega
def wdP:List PO→Nat
  | []=>0
  | o::r=>o.2.2.length+wdP r
theorem wdP_app:∀ a b:List PO,wdP (a++b)=wdP a+wdP b
  | [],b=>by simp [wdP]
  | o::r,b=>by simp [wdP,wdP_app r b];omega
theorem wdP_map:∀ os:List Ob,wdP (os.map Ob.p)=wdL os
  | []=>rfl
  | o::r=>by simp [wdP,wdL,wdP_map r,Ob.p]
theorem flatMap_wd (f:Nat→List PO) (s:Nat) (h:∀ i,wdP (f i)=s):∀ c,wdP ((List.range c).flatMap f)=c * s
  | 0=>by simp [wdP]
  | c+1=>by rw [List.range_succ,List.flatMap_append,wdP_app,flatMap_wd f s h c];simp [h,Nat.succ_mul]
theorem filP_wd (nm:ByteArray):∀ (cs:List Nat) (d:Int) (n:Nat),wdP (filP nm d cs n)=wdC cs
  | [],_,_=>rfl
  | c::cs,d,n=>by
    rw [filP,wdP,flatMap_wd _ (wdC cs) (fun i=>filP_wd nm cs (d - 1) _) c,wdC];simp
def prtL (n s c i:Nat):List Int:=(List.range c).map fun j=>if j<i then ((n+2+j * s:Nat):Int) else 0
theorem prtL_0 (n s c:Nat):prtL n s c 0=List.replicate c 0:=by
  unfold prtL
  apply List.ext_getElem?
  intro k
  by_cases h:k<c
  · simp [h]
  · simp [h]
theorem prtL_len (n s c i:Nat):(prtL n s c i).length=c:=by simp [prtL]
theorem prtL_set (n s c i:Nat):(prtL n s c i).set i ((n+2+i * s:Nat):Int)=prtL n s c (i+1):=by
  unfold prtL
  apply List.ext_getElem?
  intro k
  rw [List.getElem?_set]
  by_cases h:i=k
  · subst h
    rw [if_pos rfl]
    by_cases hc:i<c
    · rw [if_pos (by simpa using hc)];simp [hc]
    · rw [if_neg (by simpa using hc)];simp [hc]
  · rw [if_neg h]
    by_cases hk:k<c
    · simp [hk]
      by_cases h1:k<i
      · rw [if_pos h1,if_pos (by omega)]
      · rw [if_neg h1,if_neg (by omega)]
    · simp [hk]
theorem prtL_all (n s c:Nat):prtL n s c c=(List.range c).map fun j=>((n+2+j * s:Nat):Int):=by
  unfold prtL
  apply List.map_congr_left
  intro j hj
  rw [if_pos (List.mem_range.1 hj)]
theorem flatO_set:∀ (os:List Ob) (k:Nat) (o o':Ob),os[k]?=some o→o'.d=o.d→o'.nm=o.nm→elV o'=elV o→flatO (os.set k o')=flatO os
  | [],k,o,o',h,_,_,_=>by simp at h
  | p::r,0,o,o',h,h1,h2,h3=>by
    simp at h;subst h
    simp [flatO,obC,h1,h2,h3]
  | p::r,k+1,o,o',h,h1,h2,h3=>by
    simp only [List.set_cons_succ,flatO]
    rw [flatO_set r k o o' (by simpa using h) h1 h2 h3]
theorem wdL_set:∀ (os:List Ob) (k:Nat) (o o':Ob),os[k]?=some o→o'.xs.length=o.xs.length→wdL (os.set k o')=wdL os
  | [],k,o,o',h,_=>by simp at h
  | p::r,0,o,o',h,h1=>by
    simp at h;subst h
    simp [wdL,h1]
  | p::r,k+1,o,o',h,h1=>by
    simp only [List.set_cons_succ,wdL]
    rw [wdL_set r k o o' (by simpa using h) h1]
theorem HpAt.setEl {w:World} {S:Nat→Prop} {hb b:Nat} {ov:Value} {os:List Ob} (h:HpAt w S hb b ov os) (k i g:Nat) (o:Ob) (hk:os[k]?=some o) (hg:o.eb=some g) (v:Int) :
    HpAt (w.setCell ⟨g,i,none⟩ (.int .i64 v)) S hb b ov (os.set k { o with xs:=o.xs.set i v }):=by
  have hm:=List.mem_of_getElem? hk
  have hgb:=h.el o hm g hg
  obtain ⟨n1,n2⟩:=h.ene hgb
  have hl:=(List.getElem?_eq_some_iff.1 hk).1
  have mem:∀ p∈os.set k { o with xs:=o.xs.set i v },p={ o with xs:=o.xs.set i v }∨(p∈os∧∃ j,j≠k∧os[j]?=some p):=fun p hp=>by
    obtain ⟨j,hj⟩:=List.mem_iff_getElem?.1 hp
    rw [List.getElem?_set] at hj
    by_cases e:k=j
    · rw [if_pos e,if_pos hl] at hj;exact .inl (by simpa using hj.symm)
    · rw [if_neg e] at hj;exact .inr ⟨List.mem_of_getElem? hj,j,fun x=>e x.symm,hj⟩
  have eb_at:∀ (j:Nat) (p:Ob) (x:Nat),(os.set k { o with xs:=o.xs.set i v })[j]?=some p→p.eb=some x→∃ q,os[j]?=some q∧q.eb=some x:=fun j p x hj hx=>by
    rw [List.getElem?_set] at hj
    by_cases e:k=j
    · rw [if_pos e,if_pos hl] at hj
      simp at hj;subst hj;subst e
      exact ⟨o,hk,hx⟩
    · rw [if_neg e] at hj;exact ⟨p,hj,hx⟩
  refine { sz:=fun x hx=>by simpa using h.sz x hx,hS:=h.hS,oS:=h.oS,eS:=fun p hp x hx=>?_,hh:=?_,ow:=?_,el:=fun p hp x hx=>?_,no:=fun p hp hn=>?_,dj:=fun j1 j2 p q x h1 h2 e1 e2=>?_,n1:=by simpa using h.n1,n2:=?_ }
  · rcases mem p hp with rfl|⟨hp,_⟩
    · exact h.eS o hm x hx
    · exact h.eS p hp x hx
  · rw [wdL_set os k o _ hk (by simp)]
    exact (Below.heap_setCell _ _ _ _ (fun e=>n2 e.symm)).trans h.hh
  · rw [flatO_set os k o { o with xs:=o.xs.set i v } hk rfl rfl (by simp [elV]),List.length_set]
    exact own_keep h.ow (fun x hx=>Below.heap_setCell _ _ _ _ (fun e=>n1 (hx.trans (congrArg some e))))
  · rcases mem p hp with rfl|⟨hp,j,hj,hj2⟩
    · obtain rfl:g=x:=by rw [hg] at hx;exact Option.some.inj hx
      rw [Go.Joins.block_setCell (i:=i) hgb]
      simp [intL]
    · have hne:x≠g:=fun e=>hj (h.dj j k p o g hj2 hk (by rw [← e];exact hx) hg)
      exact (Below.heap_setCell _ _ _ _ hne).trans (h.el p hp x hx)
  · rcases mem p hp with rfl|⟨hp,_⟩
    · rw [show ({ o with xs:=o.xs.set i v }:Ob).eb=some g from hg] at hn;cases hn
    · exact h.no p hp hn
  · obtain ⟨p',a1,a2⟩:=eb_at j1 p x h1 e1
    obtain ⟨q',b1,b2⟩:=eb_at j2 q x h2 e2
    exact h.dj j1 j2 p' q' x a1 b1 a2 b2
  · rw [wdL_set os k o _ hk (by simp)];exact h.n2
theorem Tryz.hinfoIn:(Tryz.prog.info? 3).map (fun i=>(i.zero,i.size,i.bytes))=some (some (.int .i64 0),1,8):=by kernel_rfl
theorem mk_ints (n:Nat) (hn:n≤1000000) (w:World):(Instr.makeSlice 41 (.int .i64 (n:Int)) (.int .i64 (n:Int))).run Tryz.prog w=.ok (.slice (some ⟨w.heap.size,0,none⟩) n n) (w.alloc (.cells (intL (List.replicate n 0)).toArray 3)):=by
  obtain ⟨i0,hi,hz0,hz1,hz2⟩:=info_parts Tryz.hinfoIn
  have:=run_make w (P:=Tryz.prog) 41 3 i0 _ Tryz.underlying41 hi hz0 .i64 .i64 (n:Int) (n:Int) (by omega) (Int.le_refl _) (by rw [hz2];omega) (by omega)
  rw [hz1,Int.toNat_natCast] at this
  rw [this]
  have e:madeCells (Value.int .i64 0).cells (n * 1)=(intL (List.replicate n 0)).toArray:=by
    apply Array.ext
    · rw [size_madeCells];simp [intL]
    · intro k h1 h2
      simp [intL,madeCells,Value.cells,Nat.mod_one]
  rw [e]
def clV (fb ab:Nat):Value:=.func (.func 74) #[] #[.pointer (some ⟨fb,0,none⟩),.pointer (some ⟨ab,0,none⟩)]
theorem comp_ok (k:Nat) (nm:ByteArray) (hz:nm.size≤maxLen) (hs:sndB ((k:Int)+1) nm.data.toList=true) (w:World):Calls Tryz.prog 75 #[.agg #[.int .i64 ((k:Int)+1),.string nm]] w fun e w'=>e=.returned (.tuple #[.agg #[.int .i64 (k:Int),.string nm],.int .i64 0])∧Below w.heap.size w w':=by
  have:=component_any ((k:Int)+1) nm hz w
  have e:cmpE ((k:Int)+1) nm.data.toList=0:=by rw [cmpE,if_pos hs,if_neg (by omega)]
  rw [e] at this
  simpa [outD,outS] using this
set_option maxHeartbeats 2000000 in
theorem arr_one {W:World} {S:Nat→Prop} {hb b fb ab:Nat} {ov:Value} {os:List Ob} (h:HpAt W S hb b ov os) (d:Int) (nm:ByteArray) (g o cap c:Nat) (hc:c≤20000) (hf:W.cell? ⟨fb,0,none⟩=some (.pointer (some ⟨hb,0,none⟩))) (hcs:W.cell? ⟨g,o,none⟩=some (.int .i64 (c:Int))) (hn:os.length<1000) (hw:wdL os+c≤20000) :
    Calls Tryz.prog 74 #[.agg #[.int .i64 d,.string nm],.slice (some ⟨g,o,none⟩) 1 cap,.pointer (some ⟨fb,0,none⟩),.pointer (some ⟨ab,0,none⟩)] W fun e w'=>e=.returned (.int .i64 ((os.length:Int)+1))∧∃ o',HpN S W w' hb b (os++[o'])∧o'.p=(d,nm,List.replicate c 0):=by
  have hmk:=mk_ints c (by omega)
  have hfl:fb<W.heap.size:=World.block_lt_of_cell? _ _ hf
  have hgl:g<W.heap.size:=World.block_lt_of_cell? _ _ hcs
  have hfn:¬ fb=W.heap.size:=by omega
  have hgn:¬ g=W.heap.size:=by omega
  obtain ⟨U,hU⟩:∃ U,U=(W.alloc (.cells #[.int .i64 d,.string nm] 40)).alloc (.cells (intL (List.replicate c 0)).toArray 3):=⟨_,rfl⟩
  have HA:Hid (Calls Tryz.prog 42 #[.pointer (some ⟨hb,0,none⟩),.agg #[.int .i64 d,.string nm,.slice (some ⟨W.heap.size+1,0,none⟩) c c]] ((W.alloc (.cells #[.int .i64 d,.string nm] 40)).alloc (.cells (intL (List.replicate c 0)).toArray 3)) fun e w'=>e=.returned (.int .i64 ((os.length:Int)+1))∧∃ o',HpN S W w' hb b (os++[o'])∧o'.p=(d,nm,List.replicate c 0)):=by
    rw [← hU]
    have BU:Below W.heap.size W U:=by rw [hU];exact ((Below.refl _ _).alloc (Nat.le_refl _) _).alloc (by simp) _
    have hUs:U.heap.size=W.heap.size+2:=by rw [hU];simp
    have hUb:U.heap[W.heap.size+1]?=some (.cells (intL (List.replicate c 0)).toArray 3 (0,0)):=by rw [hU];exact haA _ _ (by simp)
    have hh:HpAt U (fun k=>S k∨k=W.heap.size+1) hb b ov os:=(h.below BU).mono (fun k hk=>by rcases hk with hk|rfl;exact (h.below BU).sz k hk;omega) (fun k _ x=>.inl x)
    have:=add_c hh ⟨d,nm,some (W.heap.size+1),List.replicate c 0⟩ hn (by simpa using hw) (fun e=>by cases e) (fun g hg=>by cases hg;exact ⟨.inr rfl,hUb,fun p hp e=>by have:=h.lte hp e;omega⟩)
    simp only [obV,elV,ebV,List.length_replicate] at this
    refine this.mono fun e w' ⟨h1,⟨v',h2⟩,h3⟩=>⟨h1,_,⟨⟨v',h2.mono ?_ ?_⟩,?_⟩,rfl⟩
    · intro k hk
      rcases hk with hk|hk
      · exact Nat.lt_of_lt_of_le (h.sz k hk) (Nat.le_trans BU.size h3.size)
      · exact hk.2
    · intro k hk1 hk
      rcases hk with (hk|rfl)|hk
      · exact .inl hk
      · exact .inr ⟨by omega,hk1⟩
      · exact .inr ⟨by omega,hk1⟩
    · refine ((Tch.refl S W).bel BU).trans h3 (fun k hk hs=>?_)
      rcases hs with hs|rfl
      · exact hs
      · omega
  clear h hU hn hw
  go_enter Tryz.func74,Tryz.ntmps74
  go_wp2_with (go_at_call 42;refine HA.out.mono ?_;rintro e w1 ⟨rfl,hx⟩;have N1:Hid _:=hx;clear hx HA)
  all_goals go_ret
  all_goals exact ⟨rfl,N1.out⟩
def ArS (W:World) (S:Nat→Prop) (hb b ge cb:Nat) (d:Int) (nm:ByteArray) (os:List Ob) (c:Nat) (cs:List Nat) (i:Nat) (wr:World):Prop :=
  ∃ S' v new,HpAt wr S' hb b v (os++⟨d,nm,some ge,prtL os.length (szC cs) c i⟩::new)∧new.map Ob.p=(List.range i).flatMap (fun j=>filP nm (d - 1) cs (os.length+1+j * szC cs))∧(∀ k,S' k→S k∨(W.heap.size≤k∧k≠cb))∧Tch S W wr
theorem set_mid {α:Type} (a:List α) (x y:α) (r:List α):(a++x::r).set a.length y=a++y::r:=by
  rw [List.set_append_right _ _ (Nat.le_refl _)];simp
theorem get_mid {α:Type} (a:List α) (x:α) (r:List α):(a++x::r)[a.length]?=some x:=by simp
theorem new_len {new:List Ob} {nm:ByteArray} {d:Int} {cs:List Nat} {i m:Nat} (h:new.map Ob.p=(List.range i).flatMap (fun j=>filP nm d cs (m+j * szC cs))):new.length=i * szC cs∧wdL new=i * wdC cs:=by
  constructor
  · have:=congrArg List.length h
    rwa [List.length_map,flatMap_len _ (szC cs) (fun j=>filP_len nm cs d _) i] at this
  · have:=congrArg wdP h
    rwa [wdP_map,flatMap_wd _ (wdC cs) (fun j=>filP_wd nm cs d _) i] at this
theorem ArS.next {W:World} {S:Nat→Prop} {hb b ge cb:Nat} {d:Int} {nm:ByteArray} {os:List Ob} {c:Nat} {cs:List Nat} {i:Nat} {wr w':World} {S':Nat→Prop} {v:Value} {new new2:List Ob} (_h:HpAt wr S' hb b v (os++⟨d,nm,some ge,prtL os.length (szC cs) c i⟩::new)) (h2:new.map Ob.p=(List.range i).flatMap (fun j=>filP nm (d - 1) cs (os.length+1+j * szC cs))) (h3:∀ k,S' k→S k∨(W.heap.size≤k∧k≠cb)) (h4:Tch S W wr) (hcb:cb<wr.heap.size)
    (n1:HpN S' wr w' hb b ((os++⟨d,nm,some ge,prtL os.length (szC cs) c i⟩::new)++new2)) (n2:new2.map Ob.p=filP nm (d - 1) cs (os++⟨d,nm,some ge,prtL os.length (szC cs) c i⟩::new).length) (x:Int) (hx:x=((os.length+2+i * szC cs:Nat):Int)) :
    ArS W S hb b ge cb d nm os c cs (i+1) (w'.setCell ⟨ge,i,none⟩ (.int .i64 x)):=by
  obtain ⟨⟨v',hp⟩,ht⟩:=n1
  have hz:=h4.size
  have he:(⟨d,nm,some ge,prtL os.length (szC cs) c i⟩:Ob)∈(os++⟨d,nm,some ge,prtL os.length (szC cs) c i⟩::new)++new2:=by simp
  have hge:=hp.eS _ he ge rfl
  rw [List.append_assoc,List.cons_append] at hp
  have hs:=hp.setEl os.length i ge _ (get_mid _ _ _) rfl x
  rw [set_mid] at hs
  simp only [hx,prtL_set] at hs
  refine ⟨_,v',new++new2,by rw [hx];exact hs,?_,?_,?_⟩
  · rw [List.map_append,h2,n2,List.range_succ,List.flatMap_append,List.flatMap_singleton]
    congr 2
    rw [List.length_append,List.length_cons,(new_len h2).1];omega
  · intro k hk
    rcases hk with hk|hk
    · exact h3 k hk
    · exact .inr ⟨by omega,by omega⟩
  · refine (h4.trans ht (fun k hk hs=>?_)).set (p:=⟨ge,i,none⟩) ?_ _
    · rcases h3 k hs with e|e
      · exact e
      · omega
    · rcases hge with e|e
      · rcases h3 ge e with e|e
        · exact .inl e
        · exact .inr e.1
      · exact .inr (by show W.heap.size≤ge;omega)
theorem ArS.done {W:World} {S:Nat→Prop} {hb b ge cb:Nat} {d:Int} {nm:ByteArray} {os:List Ob} {c:Nat} {cs:List Nat} {wr:World} (hS:∀ k,S k→k<W.heap.size) (hcs:cs≠[]) (h:ArS W S hb b ge cb d nm os c cs c wr):∃ new,HpN S W wr hb b (os++new)∧new.map Ob.p=filP nm d (c::cs) os.length:=by
  obtain ⟨S',v,new,h1,h2,h3,h4⟩:=h
  refine ⟨_::new,⟨⟨v,h1.mono ?_ ?_⟩,h4⟩,?_⟩
  · intro k hk
    exact hk.elim (fun x=>Nat.lt_of_lt_of_le (hS k x) h4.size) (fun x=>x.2)
  · intro k hk hs
    rcases h3 k hs with e|e
    · exact .inl e
    · exact .inr ⟨e.1,hk⟩
  · rw [List.map_cons,h2,filP,Ob.p,prtL_all]
    simp only [if_neg hcs]
set_option maxHeartbeats 4000000 in
theorem arr_many {W:World} {S:Nat→Prop} {hb b fb ab:Nat} {ov:Value} {os:List Ob} (h:HpAt W S hb b ov os) (k:Nat) (nm:ByteArray) (hz:nm.size≤maxLen) (hsn:sndB ((k:Int)+1) nm.data.toList=true) (g o cap c n:Nat) (cs:List Nat) (hcs:cs≠[]) (_HN:Hid (cs.length=n)) (hn0:0<n) (hn9:n≤1000000) (hcap:n+1≤cap) (hf:W.cell? ⟨fb,0,none⟩=some (.pointer (some ⟨hb,0,none⟩))) (ha:W.cell? ⟨ab,0,none⟩=some (clV fb ab)) (hc0:W.cell? ⟨g,o,none⟩=some (.int .i64 (c:Int)))
    (hSf:¬ S fb) (hSa:¬ S ab) (hSg:¬ S g) (hl:os.length+(1+c * szC cs)≤1000) (hw:wdL os+(c+c * wdC cs)≤20000)
    (IH:Hid (∀ (w:World) (S':Nat→Prop) (v:Value) (os':List Ob),HpAt w S' hb b v os'→w.heap[g]?=W.heap[g]?→w.cell? ⟨fb,0,none⟩=some (.pointer (some ⟨hb,0,none⟩))→w.cell? ⟨ab,0,none⟩=some (clV fb ab)→¬ S' fb→¬ S' ab→¬ S' g→os'.length+szC cs≤1000→wdL os'+wdC cs≤20000→Calls Tryz.prog 74 #[.agg #[.int .i64 (k:Int),.string nm],.slice (some ⟨g,o+1,none⟩) n (cap - 1),.pointer (some ⟨fb,0,none⟩),.pointer (some ⟨ab,0,none⟩)] w fun e w'=>e=.returned (.int .i64 ((os'.length:Int)+1))∧∃ new,HpN S' w w' hb b (os'++new)∧new.map Ob.p=filP nm (k:Int) cs os'.length)) :
    Calls Tryz.prog 74 #[.agg #[.int .i64 ((k:Int)+1),.string nm],.slice (some ⟨g,o,none⟩) (n+1) cap,.pointer (some ⟨fb,0,none⟩),.pointer (some ⟨ab,0,none⟩)] W fun e w'=>e=.returned (.int .i64 ((os.length:Int)+1))∧∃ new,HpN S W w' hb b (os++new)∧new.map Ob.p=filP nm ((k:Int)+1) (c::cs) os.length:=by
  have hc:c≤20000:=by have:c≤c+c * wdC cs:=Nat.le_add_right _ _;omega
  have hmk:=mk_ints c (by omega)
  have hfl:fb<W.heap.size:=World.block_lt_of_cell? _ _ hf
  have hal:ab<W.heap.size:=World.block_lt_of_cell? _ _ ha
  have hgl:g<W.heap.size:=World.block_lt_of_cell? _ _ hc0
  have hfn:¬ fb=W.heap.size:=by omega
  have hgn:¬ g=W.heap.size:=by omega
  obtain ⟨U,hU⟩:∃ U,U=(W.alloc (.cells #[.int .i64 ((k:Int)+1),.string nm] 40)).alloc (.cells (intL (List.replicate c 0)).toArray 3):=⟨_,rfl⟩
  have BU:Hid (Below W.heap.size W U):=by rw [hU];exact ((Below.refl _ _).alloc (Nat.le_refl _) _).alloc (by simp) _
  have hUs:U.heap.size=W.heap.size+2:=by rw [hU];simp
  have hUb:Hid (U.heap[W.heap.size+1]?=some (.cells (intL (List.replicate c 0)).toArray 3 (0,0))):=by rw [hU];exact haA _ _ (by simp)
  have hUt:Hid (U.heap[W.heap.size]?=some (.cells #[.int .i64 ((k:Int)+1),.string nm] 40 (0,0))):=by rw [hU];exact hkA (halloc1 _ _)
  have HA:Hid (Calls Tryz.prog 42 #[.pointer (some ⟨hb,0,none⟩),.agg #[.int .i64 ((k:Int)+1),.string nm,.slice (some ⟨W.heap.size+1,0,none⟩) c c]] U fun e w'=>e=.returned (.int .i64 ((os.length:Int)+1))∧(∃ v',HpAt w' (gS (fun k=>S k∨k=W.heap.size+1) U.heap.size w'.heap.size) hb b v' (os++[⟨(k:Int)+1,nm,some (W.heap.size+1),List.replicate c 0⟩]))∧Tch (fun k=>S k∨k=W.heap.size+1) U w'):=by
    have hh:HpAt U (fun k=>S k∨k=W.heap.size+1) hb b ov os:=(h.below BU.out).mono (fun k hk=>by rcases hk with hk|rfl;exact (h.below BU.out).sz k hk;omega) (fun k _ x=>.inl x)
    have:=add_c hh ⟨(k:Int)+1,nm,some (W.heap.size+1),List.replicate c 0⟩ (by omega) (by simp;omega) (fun e=>by cases e) (fun g hg=>by cases hg;exact ⟨.inr rfl,hUb.out,fun p hp e=>by have:=h.lte hp e;omega⟩)
    simp only [obV,elV,ebV,List.length_replicate] at this
    exact this
  have HS:Hid (∀ k,S k→k<W.heap.size):=h.sz
  have HT:Hid (∀ w:World,Calls Tryz.prog 75 #[.agg #[.int .i64 ((k:Int)+1),.string nm]] w fun e w'=>e=.returned (.tuple #[.agg #[.int .i64 (k:Int),.string nm],.int .i64 0])∧Below w.heap.size w w'):=comp_ok k nm hz hsn
  have HUE:Hid (U=(W.alloc (.cells #[.int .i64 ((k:Int)+1),.string nm] 40)).alloc (.cells (intL (List.replicate c 0)).toArray 3)):=hU
  have HL:Hid (os.length+(1+c * szC cs)≤1000):=hl
  have HW:Hid (wdL os+(c+c * wdC cs)≤20000):=hw
  have HSf:Hid (¬ S fb):=hSf
  have HSa:Hid (¬ S ab):=hSa
  have HSg:Hid (¬ S g):=hSg
  have HCS:Hid (cs≠[]):=hcs
  have g1:¬ ((n:Int)+1<1):=by omega
  have g2:(0:Int)<(n:Int):=by omega
  have HF0:Hid (W.cell? ⟨fb,0,none⟩=some (.pointer (some ⟨hb,0,none⟩))):=hf
  have HA0:Hid (W.cell? ⟨ab,0,none⟩=some (clV fb ab)):=ha
  clear h hU hl hw hsn hz hSf hSa hSg hcs hUb ha
  go_enter Tryz.func74,Tryz.ntmps74
  go_wp2_with (first
    | (go_at_call 42;rw [← HUE.out];refine HA.out.mono ?_;rintro e w1 ⟨rfl,⟨v1,hp1⟩,ht1⟩;have P1:Hid _:=hp1;have T1:Hid (Tch (fun k=>S k∨k=W.heap.size+1) U w1):=ht1;have hz1:=ht1.size;have tb:=(ht1.blk W.heap.size (by omega) (fun x=>by rcases x with x|x;have:=HS.out _ x;omega;omega)).trans hUt.out;have TB:Hid _:=tb;obtain ⟨t0,t1,tf,tL⟩:=r2c tb;clear tb hp1 ht1 HA)
    | (go_at_call 75;refine (HT.out _).mono ?_;rintro e w2 ⟨rfl,hB⟩;have B2:Hid (Below w1.heap.size w1 w2):=hB;have hz2:=hB.size;clear hB HT))
  have AR:Hid (ArS W S hb b (W.heap.size+1) w2.heap.size ((k:Int)+1) nm os c cs 0 (w2.alloc (.cells #[.int .i64 (k:Int),.string nm] 40))):=by
    have B3:Below w1.heap.size w1 (w2.alloc (.cells #[.int .i64 (k:Int),.string nm] 40)):=B2.out.alloc hz2 _
    refine ⟨_,v1,[],by rw [prtL_0];exact P1.out.below B3,rfl,fun x hx=>?_,?_⟩
    · rcases hx with (hx|rfl)|hx
      · exact .inl hx
      · exact .inr ⟨by omega,by omega⟩
      · exact .inr ⟨by omega,by omega⟩
    · refine (((Tch.refl S W).bel BU.out).trans T1.out (fun x hx hs=>?_)).bel B3
      rcases hs with hs|rfl
      · exact hs
      · omega
  have CB:Hid ((w2.alloc (.cells #[.int .i64 (k:Int),.string nm] 40)).heap[w2.heap.size]?=some (.cells #[.int .i64 (k:Int),.string nm] 40 (0,0))):=halloc1 _ _
  clear t0 t1 tf tL TB P1 T1
  go_loopw [34] (fun iv wr=>∃ i:Nat,iv=.int .i64 i∧i≤c∧Hid (ArS W S hb b (W.heap.size+1) w2.heap.size ((k:Int)+1) nm os c cs i wr)∧Hid (wr.heap[w2.heap.size]?=some (.cells #[.int .i64 (k:Int),.string nm] 40 (0,0)))) (fun iv _=>c - (intOf iv).toNat)
  case atStart=>exact ⟨0,rfl,Nat.zero_le _,AR,CB⟩
  case round =>
    obtain ⟨i,rfl,hi,HR,HCB⟩:=hrel
    clear AR CB
    by_cases hlt:i<c
    · obtain ⟨S',v,new,h1,h2,h3,h4⟩:=HR.out
      have hltI:(i:Int)<(c:Int):=by omega
      obtain ⟨l1,l2⟩:=new_len h2
      obtain ⟨M,hM⟩:∃ M,(os++⟨(k:Int)+1,nm,some (W.heap.size+1),prtL os.length (szC cs) c i⟩::new).length=M:=⟨_,rfl⟩
      have hM2:M=os.length+1+i * szC cs:=by rw [← hM,List.length_append,List.length_cons,l1];omega
      have hWL:wdL (os++⟨(k:Int)+1,nm,some (W.heap.size+1),prtL os.length (szC cs) c i⟩::new)=wdL os+(c+i * wdC cs):=by rw [wdL_app,wdL,l2,prtL_len]
      have m1:i * szC cs+szC cs≤c * szC cs:=by have:=Nat.mul_le_mul_right (szC cs) (show i+1≤c by omega);rwa [Nat.succ_mul] at this
      have m2:i * wdC cs+wdC cs≤c * wdC cs:=by have:=Nat.mul_le_mul_right (wdC cs) (show i+1≤c by omega);rwa [Nat.succ_mul] at this
      have q1:=HL.out
      have q2:=HW.out
      have yf:wr.cell? ⟨fb,0,none⟩=some (.pointer (some ⟨hb,0,none⟩)):=(World.cell?_of_block (h4.blk fb hfl HSf.out)).trans HF0.out
      have ya:wr.cell? ⟨ab,0,none⟩=some (clV fb ab):=(World.cell?_of_block (h4.blk ab hal HSa.out)).trans HA0.out
      have HI:=IH.out wr S' v _ h1 (h4.blk g hgl HSg.out) yf ya (fun x=>(h3 fb x).elim HSf.out (fun y=>by omega)) (fun x=>(h3 ab x).elim HSa.out (fun y=>by omega)) (fun x=>(h3 g x).elim HSg.out (fun y=>by omega)) (by rw [hM];omega) (by rw [hWL];omega)
      rw [hM] at HI
      obtain ⟨z0,z1,zf,zL⟩:=r2c HCB.out
      have NX:Hid (∀ w' new2,HpN S' wr w' hb b ((os++⟨(k:Int)+1,nm,some (W.heap.size+1),prtL os.length (szC cs) c i⟩::new)++new2)→new2.map Ob.p=filP nm (k:Int) cs M→(∃ u,w'.cell? ⟨W.heap.size+1,i,none⟩=some (.int .i64 u))∧w'.frozen? ⟨W.heap.size+1,i,none⟩=false∧ArS W S hb b (W.heap.size+1) w2.heap.size ((k:Int)+1) nm os c cs (i+1) (w'.setCell ⟨W.heap.size+1,i,none⟩ (.int .i64 ((M:Int)+1)))∧(w'.setCell ⟨W.heap.size+1,i,none⟩ (.int .i64 ((M:Int)+1))).heap[w2.heap.size]?=some (.cells #[.int .i64 (k:Int),.string nm] 40 (0,0))):=fun w' new2 n1 n2=>by
        obtain ⟨⟨v',hp⟩,ht⟩:=n1
        have hblk:=hp.el ⟨(k:Int)+1,nm,some (W.heap.size+1),prtL os.length (szC cs) c i⟩ (by simp) _ rfl
        refine ⟨⟨(prtL os.length (szC cs) c i)[i]'(by rw [prtL_len];exact hlt),?_⟩,frozen_of_row w' _ i _ _ hblk,ArS.next h1 h2 h3 h4 zL ⟨⟨v',hp⟩,ht⟩ (by rw [hM,show (k:Int)+1 - 1=k by omega];exact n2) _ (by rw [hM2];omega),?_⟩
        · rw [cell_of_row w' _ i _ _ _ hblk]
          simp [intL,prtL_len,hlt]
        · rw [Below.heap_setCell _ _ _ _ (by simp;omega)]
          exact (ht.blk _ zL (fun x=>(h3 _ x).elim (fun y=>by have:=HS.out _ y;omega) (fun y=>y.2 rfl))).trans HCB.out
      have HI2:Hid (Calls Tryz.prog 74 #[.agg #[.int .i64 (k:Int),.string nm],.slice (some ⟨g,o+1,none⟩) n (cap - 1),.pointer (some ⟨fb,0,none⟩),.pointer (some ⟨ab,0,none⟩)] wr fun e w'=>e=.returned (.int .i64 ((M:Int)+1))∧∃ new2,HpN S' wr w' hb b ((os++⟨(k:Int)+1,nm,some (W.heap.size+1),prtL os.length (szC cs) c i⟩::new)++new2)∧new2.map Ob.p=filP nm (k:Int) cs M):=HI
      unfold clV at ya
      clear HI h1 h2 h3 h4 l1 l2 m1 m2 q1 q2 hWL hM2 hM HR HCB IH HL HW
      go_wp2_with (go_at_call 74;refine HI2.out.mono ?_;rintro e w3 ⟨rfl,new2,n1,n2⟩;obtain ⟨⟨u,ye⟩,ye2,AR3,CB3⟩:=NX.out w3 new2 n1 n2;have AR4:Hid _:=AR3;have CB4:Hid _:=CB3;clear n1 n2 AR3 CB3 NX)
      go_roundw
      case rel=>exact ⟨i+1,by go_num,by omega,AR4,CB4⟩
      case measure=>simp [intOf];omega
    · obtain rfl:i=c:=by omega
      have hltI:¬ (i:Int)<(i:Int):=by omega
      have RES:Hid _:=ArS.done HS.out HCS.out HR.out
      clear HR HCB IH
      go_wp2
      go_ret
      exact ⟨rfl,RES.out⟩
end Go.Proofs.YtfnmmpkhopochaaGreat
