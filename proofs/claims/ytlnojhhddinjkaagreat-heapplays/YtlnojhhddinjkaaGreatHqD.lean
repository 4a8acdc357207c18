import Derived.Test.YtlnojhhddinjkaaGreatOrdB
import Derived.Test.YtlnojhhddinjkaaGreatHpD
set_option maxHeartbeats 2000000
set_option maxRecDepth 100000
namespace Go.Proofs.YtlnojhhddinjkaaGreat
open Go.RowKit Go.Maps
def wld (l:List Cls):List Plc:=l.foldl (fun ps c=>dfP ps (defN ps c)) P3
theorem wld_snoc (l:List Cls) (c:Cls):wld (l++[c])=dfP (wld l) (defN (wld l) c):=by
 rw [wld,List.foldl_append];rfl
theorem wld_at {l:List Cls} {i:Nat} {c:Cls} (h:l[i]?=some c):wld (l.take (i+1))=dfP (wld (l.take i)) (defN (wld (l.take i)) c):=by
 rw [List.take_add_one,h];exact wld_snoc _ _
theorem Zcm {P:List Plc→Prop} (h3:P P3) (hd:∀ ps c,P ps→ClsW c→P (dfP ps (defN ps c))):∀ l:List Cls,(∀ c∈l,ClsW c)→P (wld l):=by
 have key:∀ (l:List Cls) (ps:List Plc),(∀ c∈l,ClsW c)→P ps→P (l.foldl (fun ps c=>dfP ps (defN ps c)) ps):=by
  intro l
  induction l with
  | nil=>exact fun ps _ h=>h
  | cons c l ih=>exact fun ps hl h=>ih _ (fun x hx=>hl x (List.mem_cons_of_mem _ hx)) (hd ps c h (hl c (by simp)))
 exact fun l hl=>key l P3 hl h3
theorem Zi4 (l:List Cls) (hl:∀ c∈l,ClsW c):WI (wld l):=Zcm wi3 (fun _ c h hc=>h.define c hc) l hl
theorem Zk0 {w:World} {v:Value} {l:List Cls} (h:J3 w v l):∀ c∈l,ClsW c:=by
 obtain ⟨ao,cap,e,h1,h2,h3⟩:=h
 intro c hc
 obtain ⟨bk,o,_,_,h4⟩:=h3 (fun e=>by rw [e] at hc;simp at hc)
 obtain ⟨i,hi⟩:=List.mem_iff_getElem?.1 hc
 obtain ⟨vi,vm,_,hin⟩:=h4 i c hi
 exact hin.ok
def extI (ps:List Plc) (a b:Int):Bool:=(plcI ps a).isSome&&(plcI ps b).isSome&&extB (ps.map nd) a.toNat b.toNat
theorem Zcf {b:Nat} {ps:List Plc} {W:World} (h:WAt b ps W) (x y:Int) (hxy:plcI ps x=none∨plcI ps y=none):Calls Tryz.prog 184 #[.pointer (some ⟨b,0,none⟩),.int .i64 x,.int .i64 y] W fun e w'=>e=.returned (.bool false)∧Bw W w':=by
 have HX:Hid (∀ i z w,Bw W w→plcI ps i=z→Calls Tryz.prog 61 #[.pointer (some ⟨b,0,none⟩),.int .i64 i] w fun e w'=>e=.returned (.bool z.isSome)∧w'=w):=fun i z w hb hi=>by
  have:=has_c (h.below hb) i
  rw [hi] at this;exact this
 clear h
 generalize hpx:plcI ps x=px at *
 generalize hpy:plcI ps y=py at *
 have HPX:Hid _:=hpx
 have HPY:Hid _:=hpy
 clear hpx hpy
 cases px with
 | none =>
   go_enter Tryz.func184,Tryz.ntmps184
   go_wp2_with (go_at_call 61;refine (HX.out _ _ _ sqR HPX.out).mono ?_;rintro e w9 ⟨rfl,hw9⟩;rw [hw9];clear hw9 w9)
   refine bodyPost_ret (v:=.bool false) (by simp [results,Tryz.results184,go_sem]) rfl ⟨rfl,sqR⟩
 | some p =>
   obtain rfl:py=none:=hxy.resolve_left (by simp)
   clear hxy
   have HX1:Hid (∀ i w,Bw W w→i=x→Calls Tryz.prog 61 #[.pointer (some ⟨b,0,none⟩),.int .i64 i] w fun e w'=>e=.returned (.bool true)∧w'=w):=fun i w hb hi=>by rw [hi];exact HX.out x _ w hb HPX.out
   have HY1:Hid (∀ i w,Bw W w→i=y→Calls Tryz.prog 61 #[.pointer (some ⟨b,0,none⟩),.int .i64 i] w fun e w'=>e=.returned (.bool false)∧w'=w):=fun i w hb hi=>by rw [hi];exact HX.out y _ w hb HPY.out
   go_enter Tryz.func184,Tryz.ntmps184
   go_wp2_with (first
    | (go_at_call 61;refine (HX1.out _ _ sqR (by rfl)).mono ?_;rintro e w9 ⟨rfl,hw9⟩;rw [hw9];clear hw9 w9)
    | (go_at_call 61;refine (HY1.out _ _ sqR (by rfl)).mono ?_;rintro e w9 ⟨rfl,hw9⟩;rw [hw9];clear hw9 w9))
   refine bodyPost_ret (v:=.bool false) (by simp [results,Tryz.results184,go_sem]) rfl ⟨rfl,sqR⟩
theorem Zkt {b:Nat} {ps:List Plc} {W:World} (h:WAt b ps W) (hi:WI ps) (x y:Int):Calls Tryz.prog 184 #[.pointer (some ⟨b,0,none⟩),.int .i64 x,.int .i64 y] W fun e w'=>e=.returned (.bool (extI ps x y))∧Bw W w':=by
 rcases Yg ps x with ⟨h1,_⟩|⟨k,p,rfl,h2,h1⟩
 ·have e:extI ps x y=false:=by rw [extI,h1];rfl
  rw [e];exact Zcf h x y (.inl h1)
 ·rcases Yg ps y with ⟨g1,_⟩|⟨j,q,rfl,g2,g1⟩
  ·have e:extI ps k y=false:=by rw [extI,h1,g1];rfl
   rw [e];exact Zcf h k y (.inr g1)
  ·have e:extI ps k j=extB (ps.map nd) k j:=by rw [extI,h1,g1];rfl
   obtain ⟨N,mb,vp,pv,h⟩:=h
   rw [e];exact Zge N b mb ps vp pv k j (List.getElem?_eq_some_iff.1 h2).1 (List.getElem?_eq_some_iff.1 g2).1 hi.wo hi.hi W h
def ClsR (n:Nat):Option Plc→Ending→World→Prop
 | none,e,_=>e=.returned (.tuple #[.agg #[.string ⟨#[]⟩,.string ⟨#[]⟩,.slice none 0 0,.int .i64 0,.int .i64 0,.slice none 0 0],.int .i64 3])
 | some q,e,w'=>∃ vi vm qm,e=.returned (.tuple #[.agg #[.string q.c.nm,.string q.c.su,vi,.int .i64 q.c.fl,.int .i64 q.c.ld,vm],.int .i64 0])∧OwnC w' n vi q.c.ni q.c.xi vm qm∧qm.map Prod.fst=q.c.ms
theorem class_c {b:Nat} {ps:List Plc} {W:World} (h:WAt b ps W) (hB:∀ q∈ps,PlcB q) (x:Int):Calls Tryz.prog 18 #[.pointer (some ⟨b,0,none⟩),.int .i64 x] W fun e w'=>ClsR W.heap.size (plcI ps x) e w'∧Bw W w':=by
 obtain ⟨N,mb,vp,pv,h⟩:=h
 rcases Yg ps x with ⟨h1,h2⟩|⟨k,p,rfl,h2,h1⟩
 ·rw [h1];exact class_no N b mb ps vp pv x W h h2
 ·rw [h1]
  refine (Zk2 N b mb ps vp pv k p W h h2 (hB p (List.mem_of_getElem? h2))).mono ?_
  rintro e w' ⟨vi,vm,qm,h1,h2,h3,h4⟩
  exact ⟨⟨vi,vm,qm,h1,h2,h3⟩,h4⟩
def bnV:Option Nat→Value
 | some j=>.tuple #[.int .i64 (j:Int),.int .i64 0]
 | none=>.tuple #[.int .i64 0,.int .i64 6]
theorem Zds {b:Nat} {ps:List Plc} {W:World} (h:WAt b ps W) (nm:ByteArray) (hnz:nm.size≤maxLen):Calls Tryz.prog 49 #[.pointer (some ⟨b,0,none⟩),.string nm] W fun e w'=>e=.returned (bnV (Zn ps nm.data.toList))∧Bw W w':=by
 obtain ⟨N,mb,vp,pv,h⟩:=h
 refine (Zgh N b mb ps vp pv nm hnz W h).mono ?_
 rintro e w' ⟨rfl,hb⟩
 exact ⟨by cases Zn ps nm.data.toList <;> rfl,hb⟩
def HpN (S:Nat→Prop) (W w':World) (hb b:Nat) (os:List Ob):Prop:=(∃ v',HpAt w' (gS S W.heap.size w'.heap.size) hb b v' os)∧Tch S W w'
theorem HpAt.stay {W w':World} {S:Nat→Prop} {hb b:Nat} {ov:Value} {os:List Ob} (h:HpAt W S hb b ov os) (hl:Bw W w'):HpN S W w' hb b os :=
 ⟨⟨ov,(h.below hl).mono (fun k hk=>hk.elim (fun x=>(h.below hl).sz k x) (fun x=>x.2)) (fun _ _ x=>.inl x)⟩,(Tch.refl S W).bel hl⟩
theorem HpN.pre {S:Nat→Prop} {W0 W w':World} {hb b:Nat} {os:List Ob} (h:HpN S W w' hb b os) (hl:Bw W0 W):HpN S W0 w' hb b os:=by
 obtain ⟨⟨v,h1⟩,h2⟩:=h
 have hz:=hl.size
 exact ⟨⟨v,h1.mono (fun k hk=>hk.elim (fun x=>h1.sz k (.inl x)) (fun x=>x.2)) (fun k _ hk=>hk.imp id (fun x=>⟨by omega,x.2⟩))⟩,((Tch.refl S W0).bel hl).trans h2 (fun _ _ x=>x)⟩
theorem lnew_h (b:Nat) (W:World):Calls Tryz.prog 32 #[.pointer (some ⟨b,0,none⟩)] W fun e w'=>e=.returned (.tuple #[.pointer (some ⟨W.heap.size+1,0,none⟩),.int .i64 0])∧w'.cell? ⟨W.heap.size+1,0,none⟩=some (.pointer (some ⟨b,0,none⟩))∧W.heap.size+2≤w'.heap.size∧Bw W w':=by
 have hmm:=@run_makeMap Tryz.prog
 go_enter Tryz.func32,Tryz.ntmps32
 go_wp2
 go_ret2
 exact ⟨by simp,by simp,by simp,((Below.refl _ _).alloc (Nat.le_refl _) _).alloc (by simp) _⟩
theorem lwld_h (lb:Nat) (x:Value) (W:World) (h:W.cell? ⟨lb,0,none⟩=some x):Calls Tryz.prog 74 #[.pointer (some ⟨lb,0,none⟩)] W fun e w'=>e=.returned x∧w'=W:=by
 go_enter Tryz.func74,Tryz.ntmps74
 go_wp2
 go_ret
 exact ⟨rfl,rfl⟩
theorem hnew_c (lb b:Nat) (W:World) (h:W.cell? ⟨lb,0,none⟩=some (.pointer (some ⟨b,0,none⟩))):Calls Tryz.prog 33 #[.pointer (some ⟨lb,0,none⟩)] W fun e w'=>e=.returned (.tuple #[.pointer (some ⟨W.heap.size,0,none⟩),.int .i64 0])∧HpAt w' (fun k=>k=W.heap.size) W.heap.size b (.slice none 0 0) []∧Bw W w'∧w'.heap.size=W.heap.size+1:=by
 have HL:Hid (Calls Tryz.prog 74 #[.pointer (some ⟨lb,0,none⟩)] W fun e w'=>e=.returned (.pointer (some ⟨b,0,none⟩))∧w'=W):=lwld_h lb _ W h
 go_enter Tryz.func33,Tryz.ntmps33
 go_wp2_with (go_at_call 74;refine HL.out.mono ?_;rintro e w' ⟨rfl,rfl⟩)
 go_ret2
 refine ⟨rfl,⟨fun k hk=>by rw [hk];simp,rfl,fun k hk=>by simp [Value.ownBlock] at hk,fun o ho=>by simp at ho,?_,World.ownsRow_nil _ _ _ _,fun o ho=>by simp at ho,fun o ho=>by simp at ho,fun i j o p g hi=>by simp at hi,by simp,by simp [wdL]⟩,(Below.refl _ _).alloc (Nat.le_refl _) _,by simp⟩
 exact Zg _ _
def absB (fl:Int):Bool:=bits .and .i64 fl 1536 != 0
def obnE (ps:List Plc) (os:List Ob) (x:Int):Int:=match plcI ps x with
 | none=>3
 | some q=>if absB q.c.fl then 34 else if 1000≤os.length then 32 else 0
def obnN (ps:List Plc) (os:List Ob) (x:Int):Int:=if obnE ps os x=0 then (os.length:Int)+1 else 0
def obnL (ps:List Plc) (os:List Ob) (x:Int):List Ob:=match plcI ps x with
 | none=>os
 | some q=>if obnE ps os x=0 then os++[⟨0,q.c.nm,none,[]⟩] else os
theorem Zj6 {W:World} {S:Nat→Prop} {hb b:Nat} {ov:Value} {os:List Ob} (h:HpAt W S hb b ov os) (x:Int)
 (HC:Hid (Calls Tryz.prog 18 #[.pointer (some ⟨b,0,none⟩),.int .i64 x] W fun e w'=>e=.returned (.tuple #[.agg #[.string ⟨#[]⟩,.string ⟨#[]⟩,.slice none 0 0,.int .i64 0,.int .i64 0,.slice none 0 0],.int .i64 3])∧Bw W w')) :
 Calls Tryz.prog 34 #[.pointer (some ⟨hb,0,none⟩),.int .i64 x] W fun e w'=>e=.returned (.tuple #[.int .i64 0,.int .i64 3])∧Bw W w':=by
 obtain ⟨c0,c1,c2,fz,hl⟩:=h.cells
 clear h
 go_enter Tryz.func34,Tryz.ntmps34
 go_wp2_with (go_at_call 18;refine HC.out.mono ?_;rintro e w1 ⟨rfl,hb⟩;have B1:Hid (Bw W w1):=hb;clear hb HC)
 go_ret2
 exact ⟨rfl,B1.out.alloc B1.out.size _⟩
theorem Zfz {W:World} {S:Nat→Prop} {hb b:Nat} {ov:Value} {os:List Ob} (h:HpAt W S hb b ov os) (x:Int) (nm su:ByteArray) (fl ld:Int)
 (HC:Hid (Calls Tryz.prog 18 #[.pointer (some ⟨b,0,none⟩),.int .i64 x] W fun e w'=>∃ ai ni ci am nm2 cm,e=.returned (.tuple #[.agg #[.string nm,.string su,.slice ai ni ci,.int .i64 fl,.int .i64 ld,.slice am nm2 cm],.int .i64 0])∧Bw W w')) :
 Calls Tryz.prog 34 #[.pointer (some ⟨hb,0,none⟩),.int .i64 x] W fun e w'=>(absB fl=true∧e=.returned (.tuple #[.int .i64 0,.int .i64 34])∧Bw W w')∨(absB fl=false∧1000≤os.length∧e=.returned (.tuple #[.int .i64 0,.int .i64 32])∧Bw W w')∨(absB fl=false∧os.length<1000∧e=.returned (.tuple #[.int .i64 ((os.length:Int)+1),.int .i64 0])∧HpN S W w' hb b (os++[⟨0,nm,none,[]⟩])):=by
 obtain ⟨c0,c1,c2,fz,hl⟩:=h.cells
 obtain ⟨a,c,hov⟩:=ownv h.ow
 have HA:Hid (∀ w,Bw W w→os.length<1000→Calls Tryz.prog 75 #[.pointer (some ⟨hb,0,none⟩),.agg #[.int .i64 0,.string nm,.slice none 0 0]] w fun e w'=>e=.returned (.int .i64 ((os.length:Int)+1))∧HpN S w w' hb b (os++[⟨0,nm,none,[]⟩])):=fun w hw hn=>by
  refine (add_c (h.below hw) ⟨0,nm,none,[]⟩ hn (by have:=h.n2;simpa using this) (fun _=>rfl) (fun g hg=>by cases hg)).mono ?_
  rintro e w' ⟨h1,h2,h3⟩
  exact ⟨h1,h2,h3⟩
 rw [hov] at c1
 have hn1:=h.n1
 clear h hov fz c2
 obtain ⟨n,hN⟩:∃ n,os.length=n:=⟨_,rfl⟩
 rw [hN] at c1 hn1 HA ⊢
 clear hN
 cases hA:absB fl with
 | true =>
   have g1:(bits .and .i64 fl 1536 != 0)=true:=hA
   have g2:¬ bits .and .i64 fl 1536=0:=by simpa using g1
   clear hA g1
   go_enter Tryz.func34,Tryz.ntmps34
   go_wp2_with (go_at_call 18;refine HC.out.mono ?_;rintro e w1 ⟨ai,ni,ci,am,nm2,cm,rfl,hB⟩;have B1:Hid (Bw W w1):=hB;clear hB HC)
   go_ret2
   exact .inl ⟨by first|rfl|trivial,rfl,B1.out.alloc B1.out.size _⟩
 | false =>
   have g1:(bits .and .i64 fl 1536 != 0)=false:=hA
   have g2:bits .and .i64 fl 1536=0:=by simpa using g1
   clear hA g1
   by_cases h3:n<1000
   ·have h4:¬ (1000:Int)≤(n:Int):=by omega
    go_enter Tryz.func34,Tryz.ntmps34
    go_wp2_with (first
     | (go_at_call 18;refine HC.out.mono ?_;rintro e w1 ⟨ai,ni,ci,am,nm2,cm,rfl,hB⟩;have B1:Hid (Bw W w1):=hB;have y1:=(hB.cell (p:=⟨hb,1,none⟩) hl).trans c1;have yl:hb<w1.heap.size:=(by have:=hB.size;omega);have yn:¬ hb=w1.heap.size:=(by omega);clear hB HC)
     | (go_at_call 75;refine (HA.out _ (B1.out.alloc B1.out.size _) h3).mono ?_;rintro e w2 ⟨rfl,hn⟩;have N2:Hid _:=hn.pre (B1.out.alloc B1.out.size _);clear hn))
    go_ret2
    exact .inr (.inr ⟨by first|rfl|trivial,h3,rfl,N2.out⟩)
   ·have h4:(1000:Int)≤(n:Int):=by omega
    go_enter Tryz.func34,Tryz.ntmps34
    go_wp2_with (go_at_call 18;refine HC.out.mono ?_;rintro e w1 ⟨ai,ni,ci,am,nm2,cm,rfl,hB⟩;have B1:Hid (Bw W w1):=hB;have y1:=(hB.cell (p:=⟨hb,1,none⟩) hl).trans c1;have yl:hb<w1.heap.size:=(by have:=hB.size;omega);have yn:¬ hb=w1.heap.size:=(by omega);clear hB HC)
    go_ret2
    exact .inr (.inl ⟨by first|rfl|trivial,by omega,rfl,B1.out.alloc B1.out.size _⟩)
theorem object_c {W:World} {S:Nat→Prop} {hb b:Nat} {ov:Value} {os:List Ob} (h:HpAt W S hb b ov os) {ps:List Plc} (hw:WAt b ps W) (hB:∀ q∈ps,PlcB q) (x:Int) :
 Calls Tryz.prog 34 #[.pointer (some ⟨hb,0,none⟩),.int .i64 x] W fun e w'=>e=.returned (.tuple #[.int .i64 (obnN ps os x),.int .i64 (obnE ps os x)])∧HpN S W w' hb b (obnL ps os x):=by
 have hc:=class_c hw hB x
 cases hq:plcI ps x with
 | none =>
   rw [hq] at hc
   have e1:obnE ps os x=3:=by rw [obnE,hq]
   have e2:obnN ps os x=0:=by rw [obnN,e1];rfl
   have e3:obnL ps os x=os:=by rw [obnL,hq]
   rw [e1,e2,e3]
   exact (Zj6 h x hc).mono fun e w' ⟨h1,h2⟩=>⟨h1,h.stay h2⟩
 | some q =>
   rw [hq] at hc
   refine (Zfz h x q.c.nm q.c.su q.c.fl q.c.ld (hc.mono fun e w' ⟨⟨vi,vm,qm,h1,h2,h3⟩,h4⟩=>?_)).mono fun e w' hh=>?_
   ·obtain ⟨ai,ci,rfl⟩:=ownv h2.ifs
    obtain ⟨am,cm,rfl⟩:=ownv h2.ms
    exact ⟨ai,_,ci,am,_,cm,h1,h4⟩
   ·rcases hh with ⟨a1,a2,a3⟩|⟨a1,a2,a3,a4⟩|⟨a1,a2,a3,a4⟩
    ·have e1:obnE ps os x=34:=by rw [obnE,hq];simp [a1]
     have e2:obnN ps os x=0:=by rw [obnN,e1];rfl
     have e3:obnL ps os x=os:=by rw [obnL,hq];simp [e1]
     rw [e1,e2,e3]
     exact ⟨a2,h.stay a3⟩
    ·have e1:obnE ps os x=32:=by rw [obnE,hq];simp [a1,a2]
     have e2:obnN ps os x=0:=by rw [obnN,e1];rfl
     have e3:obnL ps os x=os:=by rw [obnL,hq];simp [e1]
     rw [e1,e2,e3]
     exact ⟨a3,h.stay a4⟩
    ·have e1:obnE ps os x=0:=by rw [obnE,hq];simp [a1,a2]
     have e2:obnN ps os x=(os.length:Int)+1:=by rw [obnN,e1];rfl
     have e3:obnL ps os x=os++[⟨0,q.c.nm,none,[]⟩]:=by rw [obnL,hq];simp [e1]
     rw [e1,e2,e3]
     exact ⟨a3,a4⟩
def szC:List Nat→Nat
 | []=>0
 | c::r=>1+c * szC r
def wdC:List Nat→Nat
 | []=>0
 | c::r=>c+c * wdC r
def CsAt (w:World) (g o:Nat) (cs:List Nat):Prop:=∀ i x:Nat,cs[i]?=some x→w.cell? ⟨g,o+i,none⟩=some (.int .i64 (x:Int))
theorem CsAt.keep {w w':World} {g o:Nat} {cs:List Nat} (h:CsAt w g o cs) (hk:w'.heap[g]?=w.heap[g]?):CsAt w' g o cs:=fun i x hx=>by
 rw [← h i x hx]
 exact World.cell?_of_block hk
theorem CsAt.drop {w:World} {g o c:Nat} {cs:List Nat} (h:CsAt w g o (c::cs)):CsAt w g (o+1) cs:=fun i x hx=>by
 have:=h (i+1) x (by simpa using hx)
 rw [show o+1+i=o+(i+1) by omega];exact this
def rmB (os:List Ob) (cs:List Nat):Bool:=decide (os.length+szC cs≤1000)&&decide (wdL os+wdC cs≤20000)
theorem sz_at {cs:List Nat} {i c:Nat} (h:cs[i]?=some c):szC (cs.drop i)=1+c * szC (cs.drop (i+1)):=by
 obtain ⟨h1,h2⟩:=List.getElem?_eq_some_iff.1 h
 rw [List.drop_eq_getElem_cons h1,h2,szC]
theorem wd_at {cs:List Nat} {i c:Nat} (h:cs[i]?=some c):wdC (cs.drop i)=c+c * wdC (cs.drop (i+1)):=by
 obtain ⟨h1,h2⟩:=List.getElem?_eq_some_iff.1 h
 rw [List.drop_eq_getElem_cons h1,h2,wdC]
theorem room_w {W:World} {hb n wd g o cap N:Nat} {a:Option Addr} {c:Nat} (cs:List Nat) (hn:n≤1000) (hw:wd≤20000) (HN:Hid (cs.length=N)) (hN:N≤1000000) (HC:Hid (CsAt W g o cs))
 (c1:W.cell? ⟨hb,1,none⟩=some (.slice a n c)) (c2:W.cell? ⟨hb,2,none⟩=some (.int .i64 (wd:Int))) :
 Calls Tryz.prog 114 #[.pointer (some ⟨hb,0,none⟩),.slice (some ⟨g,o,none⟩) N cap] W fun e w'=>e=.returned (.bool (decide (n+szC cs≤1000)&&decide (wd+wdC cs≤20000)))∧Bw W w':=by
 go_enter Tryz.func114,Tryz.ntmps114
 go_upto_region 1 with fail
 go_region
 all_goals go_wp2
 all_goals
  go_loopw [5,6,7,23] (fun rv qv mv iv wr=>∃ i A B M:Nat,iv=.int .i64 i∧i≤N∧rv=.int .i64 ((1000 - n - A:Nat):Int)∧qv=.int .i64 ((20000 - wd - B:Nat):Int)∧mv=.int .i64 (M:Int)∧n+A≤1000∧wd+B≤20000∧M≤20000∧Hid (A+M * szC (cs.drop i)=szC cs)∧Hid (B+M * wdC (cs.drop i)=wdC cs)∧Bw W wr) (fun _ _ _ iv _=>N - (intOf iv).toNat)
  case atStart=>exact ⟨0,0,0,1,rfl,Nat.zero_le _,by go_num,by go_num,rfl,by omega,by omega,by omega,(by rw [Hid];simp),(by rw [Hid];simp),(Below.refl _ _).drew⟩
  case round =>
   obtain ⟨i,A,B,M,rfl,hi,rfl,rfl,rfl,hA,hB,hM,HA,HB,hbl⟩:=hrel
   have HBL:Hid (Bw W wr):=hbl
   obtain ⟨r,hr⟩:∃ r,1000 - n - A=r:=⟨_,rfl⟩
   obtain ⟨q,hq⟩:∃ q,20000 - wd - B=q:=⟨_,rfl⟩
   rw [hr,hq]
   have hr2:n+A+r=1000:=by omega
   have hq2:wd+B+q=20000:=by omega
   clear hr hq hbl
   by_cases hlt:i<N
   ·obtain ⟨x,hx⟩:∃ x,cs[i]?=some x:=⟨_,List.getElem?_eq_getElem (by rw [HN.out];exact hlt)⟩
    have y0:=HC.out i x hx
    have y:wr.cell? ⟨g,o+i,none⟩=some (.int .i64 (x:Int)):=(HBL.out.cell (p:=⟨g,o+i,none⟩) (World.block_lt_of_cell? W _ y0)).trans y0
    have HS:=sz_at hx
    have HWd:=wd_at hx
    have hltI:(i:Int)<(N:Int):=by omega
    clear y0 hx HC
    by_cases h1:r<M
    ·have RES:Hid (decide (n+szC cs≤1000)=false):=by
      rw [Hid,decide_eq_false_iff_not,← HA.out,HS,Nat.mul_add];omega
     have h1I:(r:Int)<(M:Int):=by omega
     clear HS HWd HA HB HN
     go_wp2
     go_ret
     exact ⟨by rw [RES.out];rfl,HBL.out⟩
    ·have h1I:¬ (r:Int)<(M:Int):=by omega
     by_cases h0:M=0
     ·subst h0
      have HZ:Hid (A+0 * szC (cs.drop (i+1))=szC cs):=by rw [Hid,← HA.out];simp
      have HY:Hid (B+0 * wdC (cs.drop (i+1))=wdC cs):=by rw [Hid,← HB.out];simp
      clear HS HWd HA HB HN
      go_wp2
      go_roundw
      case rel=>exact ⟨i+1,A,B,0,by go_num,by omega,by rw [show 1000 - n - A=r by omega],by rw [show 20000 - wd - B=q by omega],rfl,hA,hB,by omega,HZ,HY,HBL.out⟩
      case measure=>simp [intOf];omega
     ·have h0I:(0:Int)<(M:Int):=by omega
      have hdv:(q:Int).tdiv (M:Int)=((q / M:Nat):Int):=rfl
      by_cases h2:q / M<x
      ·have h2I:((q / M:Nat):Int)<(x:Int):=by omega
       have RES:Hid (decide (wd+wdC cs≤20000)=false):=by
        have h3:q<M * x:=by rw [Nat.mul_comm];exact (Nat.div_lt_iff_lt_mul (by omega)).1 h2
        rw [Hid,decide_eq_false_iff_not,← HB.out,HWd,Nat.mul_add];omega
       obtain ⟨z,hz⟩:∃ z,q / M=z:=⟨_,rfl⟩
       have hzb:z≤20000:=by rw [← hz];exact Nat.le_trans (Nat.div_le_self _ _) (by omega)
       rw [hz] at hdv h2I
       clear HS HWd HA HB HN hz h2
       go_wp2
       go_ret
       exact ⟨by rw [RES.out];simp,HBL.out⟩
      ·have h3:M * x≤q:=by rw [Nat.mul_comm];exact (Nat.le_div_iff_mul_le (by omega)).1 (by omega)
       obtain ⟨P,hP⟩:∃ P,M * x=P:=⟨_,rfl⟩
       have HZ:Hid (A+M+P * szC (cs.drop (i+1))=szC cs):=by rw [Hid,← HA.out,HS,Nat.mul_add,← hP,Nat.mul_assoc];omega
       have HY:Hid (B+P+P * wdC (cs.drop (i+1))=wdC cs):=by rw [Hid,← HB.out,HWd,Nat.mul_add,← hP,Nat.mul_assoc];omega
       have hPI:(M:Int) * (x:Int)=(P:Int):=by rw [← hP];exact (Int.natCast_mul M x).symm
       have h2I:¬ ((q / M:Nat):Int)<(x:Int):=by omega
       obtain ⟨z,hz⟩:∃ z,q / M=z:=⟨_,rfl⟩
       have hzb:z≤20000:=by rw [← hz];exact Nat.le_trans (Nat.div_le_self _ _) (by omega)
       rw [hz] at hdv h2I
       rw [hP] at h3
       clear HS HWd HA HB HN hz h2 hP
       go_wp2
       go_roundw
       case rel=>exact ⟨i+1,A+M,B+P,P,by go_num,by omega,by rw [show ((1000 - n - (A+M):Nat):Int)=(r:Int) - (M:Int) by omega],by rw [show ((20000 - wd - (B+P):Nat):Int)=(q:Int) - (P:Int) by omega],by first|rfl|go_num,by omega,by omega,by omega,HZ,HY,HBL.out⟩
       case measure=>simp [intOf];omega
   ·obtain rfl:i=N:=by omega
    have hltI:¬ (i:Int)<(i:Int):=by omega
    have e0:cs.drop i=[]:=List.drop_eq_nil_of_le (by rw [HN.out];exact Nat.le_refl _)
    have RES:Hid ((decide (n+szC cs≤1000)&&decide (wd+wdC cs≤20000))=true):=by
     have a:=HA.out
     have b:=HB.out
     rw [e0] at a b
     simp only [szC,wdC,Nat.mul_zero,Nat.add_zero] at a b
     rw [Hid,Bool.and_eq_true,decide_eq_true_eq,decide_eq_true_eq];omega
    clear HA HB HC e0 HN
    go_wp2
    go_ret
    exact ⟨by rw [RES.out];rfl,HBL.out⟩
abbrev PO:=Int×ByteArray×List Int
def Ob.p (o:Ob):PO:=(o.d,o.nm,o.xs)
def filP (nm:ByteArray):Int→List Nat→Nat→List PO
 | _,[],_=>[]
 | d,c::cs,n=>(d,nm,(List.range c).map fun i=>if cs=[] then (0:Int) else ((n+2+i * szC cs:Nat):Int))::(List.range c).flatMap fun i=>filP nm (d - 1) cs (n+1+i * szC cs)
theorem Xs {α:Type} (f:Nat→List α) (s:Nat) (h:∀ i,(f i).length=s):∀ c,((List.range c).flatMap f).length=c * s
 | 0=>by simp
 | c+1=>by rw [List.range_succ,List.flatMap_append,List.length_append,Xs f s h c];simp [h,Nat.succ_mul]
theorem Zdr (nm:ByteArray):∀ (cs:List Nat) (d:Int) (n:Nat),(filP nm d cs n).length=szC cs
 | [],_,_=>rfl
 | c::cs,d,n=>by
   rw [filP,List.length_cons,Xs _ (szC cs) (fun i=>Zdr nm cs (d - 1) _) c,szC];omega
def wdP:List PO→Nat
 | []=>0
 | o::r=>o.2.2.length+wdP r
theorem Zi9:∀ a b:List PO,wdP (a++b)=wdP a+wdP b
 | [],b=>by simp [wdP]
 | o::r,b=>by simp [wdP,Zi9 r b];omega
theorem Zco:∀ os:List Ob,wdP (os.map Ob.p)=wdL os
 | []=>rfl
 | o::r=>by simp [wdP,wdL,Zco r,Ob.p]
theorem Zaf (f:Nat→List PO) (s:Nat) (h:∀ i,wdP (f i)=s):∀ c,wdP ((List.range c).flatMap f)=c * s
 | 0=>by simp [wdP]
 | c+1=>by rw [List.range_succ,List.flatMap_append,Zi9,Zaf f s h c];simp [h,Nat.succ_mul]
theorem Zgd (nm:ByteArray):∀ (cs:List Nat) (d:Int) (n:Nat),wdP (filP nm d cs n)=wdC cs
 | [],_,_=>rfl
 | c::cs,d,n=>by
   rw [filP,wdP,Zaf _ (wdC cs) (fun i=>Zgd nm cs (d - 1) _) c,wdC];simp
def prtL (n s c i:Nat):List Int:=(List.range c).map fun j=>if j<i then ((n+2+j * s:Nat):Int) else 0
theorem prtL_0 (n s c:Nat):prtL n s c 0=List.replicate c 0:=by
 unfold prtL
 apply List.ext_getElem?
 intro k
 by_cases h:k<c
 ·simp [h]
 ·simp [h]
theorem Jn (n s c i:Nat):(prtL n s c i).length=c:=by simp [prtL]
theorem Zg0 (n s c i:Nat):(prtL n s c i).set i ((n+2+i * s:Nat):Int)=prtL n s c (i+1):=by
 unfold prtL
 apply List.ext_getElem?
 intro k
 rw [List.getElem?_set]
 by_cases h:i=k
 ·subst h
  rw [if_pos rfl]
  by_cases hc:i<c
  ·rw [if_pos (by simpa using hc)];simp [hc]
  ·rw [if_neg (by simpa using hc)];simp [hc]
 ·rw [if_neg h]
  by_cases hk:k<c
  ·simp [hk]
   by_cases h1:k<i
   ·rw [if_pos h1,if_pos (by omega)]
   ·rw [if_neg h1,if_neg (by omega)]
  ·simp [hk]
theorem Zg1 (n s c:Nat):prtL n s c c=(List.range c).map fun j=>((n+2+j * s:Nat):Int):=by
 unfold prtL
 apply List.map_congr_left
 intro j hj
 rw [if_pos (List.mem_range.1 hj)]
theorem Zez:∀ (os:List Ob) (k:Nat) (o o':Ob),os[k]?=some o→o'.d=o.d→o'.nm=o.nm→elV o'=elV o→Xq (os.set k o')=Xq os
 | [],k,o,o',h,_,_,_=>by simp at h
 | p::r,0,o,o',h,h1,h2,h3=>by
   simp at h;subst h
   simp [Xq,obC,h1,h2,h3]
 | p::r,k+1,o,o',h,h1,h2,h3=>by
   simp only [List.set_cons_succ,Xq]
   rw [Zez r k o o' (by simpa using h) h1 h2 h3]
theorem Zfk:∀ (os:List Ob) (k:Nat) (o o':Ob),os[k]?=some o→o'.xs.length=o.xs.length→wdL (os.set k o')=wdL os
 | [],k,o,o',h,_=>by simp at h
 | p::r,0,o,o',h,h1=>by
   simp at h;subst h
   simp [wdL,h1]
 | p::r,k+1,o,o',h,h1=>by
   simp only [List.set_cons_succ,wdL]
   rw [Zfk r k o o' (by simpa using h) h1]
theorem HpAt.setEl {w:World} {S:Nat→Prop} {hb b:Nat} {ov:Value} {os:List Ob} (h:HpAt w S hb b ov os) (k i g:Nat) (o:Ob) (hk:os[k]?=some o) (hg:o.eb=some g) (v:Int) :
 HpAt (w.setCell ⟨g,i,none⟩ (.int .i64 v)) S hb b ov (os.set k { o with xs:=o.xs.set i v }):=by
 have hm:=List.mem_of_getElem? hk
 have hgb:=h.el o hm g hg
 obtain ⟨n1,n2⟩:=h.ene hgb
 have hl:=(List.getElem?_eq_some_iff.1 hk).1
 have mem:∀ p∈os.set k { o with xs:=o.xs.set i v },p={ o with xs:=o.xs.set i v }∨(p∈os∧∃ j,j≠k∧os[j]?=some p):=fun p hp=>by
  obtain ⟨j,hj⟩:=List.mem_iff_getElem?.1 hp
  rw [List.getElem?_set] at hj
  by_cases e:k=j
  ·rw [if_pos e,if_pos hl] at hj;exact .inl (by simpa using hj.symm)
  ·rw [if_neg e] at hj;exact .inr ⟨List.mem_of_getElem? hj,j,fun x=>e x.symm,hj⟩
 have eb_at:∀ (j:Nat) (p:Ob) (x:Nat),(os.set k { o with xs:=o.xs.set i v })[j]?=some p→p.eb=some x→∃ q,os[j]?=some q∧q.eb=some x:=fun j p x hj hx=>by
  rw [List.getElem?_set] at hj
  by_cases e:k=j
  ·rw [if_pos e,if_pos hl] at hj
   simp at hj;subst hj;subst e
   exact ⟨o,hk,hx⟩
  ·rw [if_neg e] at hj;exact ⟨p,hj,hx⟩
 refine { sz:=fun x hx=>by simpa using h.sz x hx,hS:=h.hS,oS:=h.oS,eS:=fun p hp x hx=>?_,hh:=?_,ow:=?_,el:=fun p hp x hx=>?_,no:=fun p hp hn=>?_,dj:=fun j1 j2 p q x h1 h2 e1 e2=>?_,n1:=by simpa using h.n1,n2:=?_ }
 ·rcases mem p hp with rfl|⟨hp,_⟩
  ·exact h.eS o hm x hx
  ·exact h.eS p hp x hx
 ·rw [Zfk os k o _ hk (by simp)]
  exact (Below.heap_setCell _ _ _ _ (fun e=>n2 e.symm)).trans h.hh
 ·rw [Zez os k o { o with xs:=o.xs.set i v } hk rfl rfl (by simp [elV]),List.length_set]
  exact Zw h.ow (fun x hx=>Below.heap_setCell _ _ _ _ (fun e=>n1 (hx.trans (congrArg some e))))
 ·rcases mem p hp with rfl|⟨hp,j,hj,hj2⟩
  ·obtain rfl:g=x:=by rw [hg] at hx;exact Option.some.inj hx
   rw [Go.Joins.block_setCell (i:=i) hgb]
   simp [intL]
  ·have hne:x≠g:=fun e=>hj (h.dj j k p o g hj2 hk (by rw [← e];exact hx) hg)
   exact (Below.heap_setCell _ _ _ _ hne).trans (h.el p hp x hx)
 ·rcases mem p hp with rfl|⟨hp,_⟩
  ·rw [show ({ o with xs:=o.xs.set i v }:Ob).eb=some g from hg] at hn;cases hn
  ·exact h.no p hp hn
 ·obtain ⟨p',a1,a2⟩:=eb_at j1 p x h1 e1
  obtain ⟨q',b1,b2⟩:=eb_at j2 q x h2 e2
  exact h.dj j1 j2 p' q' x a1 b1 a2 b2
 ·rw [Zfk os k o _ hk (by simp)];exact h.n2
structure Dv where
 d:Int
 nm:ByteArray
 eb:Option Nat
 vs:List (Bool×Int)
def Ya:List (Bool×Int)→List Value
 | []=>[]
 | v::r=>.bool v.1::.int .i64 v.2::Ya r
theorem Zey:∀ vs:List (Bool×Int),(Ya vs).length=vs.length * 2
 | []=>rfl
 | v::r=>by have:=Zey r;simp [Ya,this];omega
theorem Xp:∀ (vs:List (Bool×Int)) (k:Nat) (v:Bool×Int),vs[k]?=some v→(Ya vs)[k * 2]?=some (.bool v.1)∧(Ya vs)[k * 2+1]?=some (.int .i64 v.2)
 | [],k,v,h=>by simp at h
 | p::r,0,v,h=>by simp at h;subst h;exact ⟨rfl,rfl⟩
 | p::r,k+1,v,h=>by
   have:=Xp r k v (by simpa using h)
   rw [show (k+1) * 2=k * 2+2 by omega]
   exact ⟨by simpa [Ya] using this.1,by simpa [Ya] using this.2⟩
theorem Zex:∀ (vs:List (Bool×Int)) (k:Nat) (v:Bool×Int),Ya (vs.set k v)=((Ya vs).set (k * 2) (.bool v.1)).set (k * 2+1) (.int .i64 v.2)
 | [],k,v=>by simp [Ya]
 | p::r,0,v=>by simp [Ya]
 | p::r,k+1,v=>by
   rw [List.set_cons_succ,Ya,Ya,Zex r k v,show (k+1) * 2=k * 2+1+1 by omega]
   simp
def Yt:List Dv→List Value
 | []=>[]
 | e::r=>.int .i64 e.d::.string e.nm::Yt r
theorem Zew:∀ es:List Dv,(Yt es).length=es.length * 2
 | []=>rfl
 | v::r=>by have:=Zew r;simp [Yt,this];omega
theorem Zbf:∀ a b:List Dv,Yt (a++b)=Yt a++Yt b
 | [],b=>rfl
 | o::r,b=>by simp [Yt,Zbf r b]
theorem Zaw:∀ (es:List Dv) (k:Nat) (e:Dv),es[k]?=some e→(Yt es)[k * 2]?=some (.int .i64 e.d)∧(Yt es)[k * 2+1]?=some (.string e.nm)
 | [],k,v,h=>by simp at h
 | p::r,0,v,h=>by simp at h;subst h;exact ⟨rfl,rfl⟩
 | p::r,k+1,v,h=>by
   have:=Zaw r k v (by simpa using h)
   rw [show (k+1) * 2=k * 2+2 by omega]
   exact ⟨by simpa [Yt] using this.1,by simpa [Yt] using this.2⟩
def dvV (e:Dv):Value:=ebV e.eb e.vs.length
def wdD:List Dv→Nat
 | []=>0
 | e::r=>e.vs.length+wdD r
theorem Xy:∀ a b:List Dv,wdD (a++b)=wdD a+wdD b
 | [],b=>by simp [wdD]
 | o::r,b=>by simp [wdD,Xy r b];omega
structure RhAt (w:World) (S:Nat→Prop) (r b:Nat) (tv ev:Value) (es:List Dv):Prop where
 sz:∀ k,S k→k<w.heap.size
 rS:S r
 tS:∀ k,tv.ownBlock=some k→S k
 vS:∀ k,ev.ownBlock=some k→S k
 eS:∀ e∈es,∀ g,e.eb=some g→S g
 hh:w.heap[r]?=some (.cells #[.pointer (some ⟨b,0,none⟩),tv,ev] 35 (0,0))
 tw:w.ownsRow 0 40 2 tv es.length (Yt es)
 vw:w.ownsRow 0 105 1 ev es.length (es.map dvV)
 el:∀ e∈es,∀ g,e.eb=some g→w.heap[g]?=some (.cells (Ya e.vs).toArray 38 (0,0))
 no:∀ e∈es,e.eb=none→e.vs=[]
 dj:∀ (i j:Nat) (o p:Dv) (g:Nat),es[i]?=some o→es[j]?=some p→o.eb=some g→p.eb=some g→i=j
 n1:es.length≤1000
 n2:wdD es≤20000
theorem RhAt.cells {w:World} {S:Nat→Prop} {r b:Nat} {tv ev:Value} {es:List Dv} (h:RhAt w S r b tv ev es):w.cell? ⟨r,0,none⟩=some (.pointer (some ⟨b,0,none⟩))∧w.cell? ⟨r,1,none⟩=some tv∧w.cell? ⟨r,2,none⟩=some ev∧(∀ k,w.frozen? ⟨r,k,none⟩=false)∧r<w.heap.size:=r3c h.hh
theorem RhAt.lte {w:World} {S:Nat→Prop} {r b:Nat} {tv ev:Value} {es:List Dv} (h:RhAt w S r b tv ev es) {e:Dv} (he:e∈es) {g:Nat} (hg:e.eb=some g):g<w.heap.size:=(Array.getElem?_eq_some_iff.1 (h.el e he g hg)).1
theorem RhAt.keep {w w':World} {S:Nat→Prop} {r b:Nat} {tv ev:Value} {es:List Dv} (h:RhAt w S r b tv ev es) (hz:w.heap.size≤w'.heap.size) (hk:∀ k,k<w.heap.size→S k→w'.heap[k]?=w.heap[k]?):RhAt w' S r b tv ev es :=
 { h with
   sz:=fun k hs=>Nat.lt_of_lt_of_le (h.sz k hs) hz
   hh:=(hk r h.cells.2.2.2.2 h.rS).trans h.hh
   tw:=Zw h.tw (fun g hg=>hk g (h.tw.lt g hg).2 (h.tS g hg))
   vw:=Zw h.vw (fun g hg=>hk g (h.vw.lt g hg).2 (h.vS g hg))
   el:=fun o ho g hg=>(hk g (h.lte ho hg) (h.eS o ho g hg)).trans (h.el o ho g hg) }
theorem RhAt.below {w w':World} {S:Nat→Prop} {r b:Nat} {tv ev:Value} {es:List Dv} (h:RhAt w S r b tv ev es) (hb:Bw w w'):RhAt w' S r b tv ev es:=h.keep hb.size (fun k hk _=>hb.block k hk)
theorem RhAt.mono {w:World} {S S':Nat→Prop} {r b:Nat} {tv ev:Value} {es:List Dv} (h:RhAt w S r b tv ev es) (hz:∀ k,S' k→k<w.heap.size) (hs:∀ k,k<w.heap.size→S k→S' k):RhAt w S' r b tv ev es :=
 { h with
   sz:=hz
   rS:=hs _ h.cells.2.2.2.2 h.rS
   tS:=fun k hk=>hs k (h.tw.lt k hk).2 (h.tS k hk)
   vS:=fun k hk=>hs k (h.vw.lt k hk).2 (h.vS k hk)
   eS:=fun o ho g hg=>hs g (h.lte ho hg) (h.eS o ho g hg) }
theorem Zhl (e:Dv) (hn:e.eb=none→e.vs=[]):∃ a,dvV e=.slice a e.vs.length e.vs.length:=by
 unfold dvV ebV
 cases h:e.eb with
 | none=>exact ⟨none,by rw [hn h];rfl⟩
 | some g=>exact ⟨some ⟨g,0,none⟩,rfl⟩
def rfD (d:Int) (nm:ByteArray):Bool:=decide (1<d)||!decide (nm.toList=[])
theorem Xd (d:Int) (nm:ByteArray) (W:World):Calls Tryz.prog 86 #[.agg #[.int .i64 d,.string nm]] W fun e w'=>e=.returned (.bool (rfD d nm))∧Bw W w':=by
 by_cases h1:1<d
 ·go_enter Tryz.func86,Tryz.ntmps86
  go_wp2
  go_ret
  exact ⟨by simp [rfD,h1],(Below.refl _ _).alloc (Nat.le_refl _) _⟩
 ·by_cases h2:nm.toList=[]
  ·go_enter Tryz.func86,Tryz.ntmps86
   go_wp2
   go_ret
   exact ⟨by simp [rfD,h2];omega,(Below.refl _ _).alloc (Nat.le_refl _) _⟩
  ·have h3:nm.toList.isEmpty=false:=by simpa using h2
   go_enter Tryz.func86,Tryz.ntmps86
   go_wp2
   go_ret
   exact ⟨by simp [rfD,h2],(Below.refl _ _).alloc (Nat.le_refl _) _⟩
theorem Zaz {W:World} {S:Nat→Prop} {r b:Nat} {tv ev:Value} {es:List Dv} (h:RhAt W S r b tv ev es):Calls Tryz.prog 43 #[.pointer (some ⟨r,0,none⟩)] W fun e w'=>e=.returned (.int .i64 (wdD es:Int))∧w'=W:=by
 obtain ⟨c0,c1,c2,fz,hl⟩:=h.cells
 obtain ⟨a,c,hev⟩:=ownv h.vw
 have hn1:=h.n1
 have hn2:=h.n2
 have HAT:Hid (∀ i,i<es.length→∃ e g av,es[i]?=some e∧a=some ⟨g,0,none⟩∧W.cell? ⟨g,i,none⟩=some (.slice av e.vs.length e.vs.length)):=fun i hi=>by
  obtain ⟨g,c',hv⟩:=Go.Joins.ownsRow_form h.vw (by omega)
  have he:es[i]?=some es[i]:=List.getElem?_eq_getElem hi
  obtain ⟨av,hav⟩:=Zhl es[i] (h.no _ (List.getElem_mem hi))
  refine ⟨es[i],g,av,he,?_,?_⟩
  ·rw [hev] at hv;cases hv;rfl
  ·have hrow:=h.vw
   rw [hv] at hrow
   have:=hrow.cellAt i (by omega)
   rw [this,List.getElem?_map,he]
   simp [hav]
 rw [hev] at c2
 have HD:Hid (∀ i e,es[i]?=some e→wdD (es.take (i+1))=wdD (es.take i)+e.vs.length):=fun i e he=>by
  rw [List.take_add_one,he,Xy];simp [wdD]
 have HM:Hid (∀ i,wdD (es.take i)≤20000):=fun i=>by
  have:=Xy (es.take i) (es.drop i)
  rw [List.take_append_drop] at this
  omega
 obtain ⟨n,hN⟩:∃ n,es.length=n:=⟨_,rfl⟩
 have HN:Hid (es.length=n):=hN
 rw [hN] at c2 HAT hn1
 clear h hev fz c0 c1 hN hn2
 go_enter Tryz.func43,Tryz.ntmps43
 go_wp2
 go_loopw [3,4] (fun nv iv wr=>∃ i:Nat,iv=.int .i64 i∧i≤n∧nv=.int .i64 (wdD (es.take i):Int)∧wr=W) (fun _ iv _=>n - (intOf iv).toNat)
 case atStart=>exact ⟨0,rfl,Nat.zero_le _,by simp [wdD],rfl⟩
 case round =>
  obtain ⟨i,rfl,hi,rfl,rfl⟩:=hrel
  by_cases hlt:i<n
  ·obtain ⟨e,g,av,he,rfl,hc⟩:=HAT.out i hlt
   have hd:=HD.out i e he
   have hm:=HM.out (i+1)
   have hltI:(i:Int)<(n:Int):=by omega
   obtain ⟨q,hq⟩:∃ q,wdD (es.take i)=q:=⟨_,rfl⟩
   obtain ⟨m,hmm⟩:∃ m,e.vs.length=m:=⟨_,rfl⟩
   obtain ⟨t,ht⟩:∃ t,wdD (es.take (i+1))=t:=⟨_,rfl⟩
   have HT:Hid (wdD (es.take (i+1))=t):=ht
   rw [hq]
   rw [hmm] at hc
   rw [hq,hmm,ht] at hd
   rw [ht] at hm
   clear hq hmm ht he HD HM HAT
   go_wp2
   go_roundw
   case rel=>exact ⟨i+1,by go_num,by omega,by rw [HT.out];congr 1;omega,by first|rfl|trivial⟩
   case measure=>simp [intOf];omega
  ·obtain rfl:i=n:=by omega
   have hltI:¬ (i:Int)<(i:Int):=by omega
   have HE:Hid (es.take i=es):=List.take_of_length_le (by rw [HN.out];exact Nat.le_refl _)
   rw [HE.out]
   clear HD HM HAT
   go_wp2
   go_ret
   exact ⟨rfl,rfl⟩
def dvI (es:List Dv) (r:Int):Option Dv:=if 1≤r then es[(r - 1).toNat]? else none
theorem Xg (es:List Dv) (r:Int):(dvI es r=none∧(r<1∨(es.length:Int)<r))∨∃ (k:Nat) (e:Dv),r=(k:Int)+1∧es[k]?=some e∧dvI es r=some e:=by
 by_cases h:1≤r∧r≤(es.length:Int)
 ·obtain ⟨k,rfl⟩:∃ k:Nat,r=(k:Int)+1:=⟨(r - 1).toNat,by omega⟩
  have hk:k<es.length:=by omega
  refine .inr ⟨k,_,rfl,List.getElem?_eq_getElem hk,?_⟩
  rw [dvI,if_pos h.1,show ((k:Int)+1 - 1).toNat=k by omega];exact List.getElem?_eq_getElem hk
 ·refine .inl ⟨?_,by omega⟩
  unfold dvI
  by_cases h0:1≤r
  ·rw [if_pos h0];exact List.getElem?_eq_none (by omega)
  ·rw [if_neg h0]
theorem dvI_mem {es:List Dv} {r:Int} {e:Dv} (h:dvI es r=some e):e∈es:=by
 rcases Xg es r with ⟨h1,_⟩|⟨k,q,_,h2,h1⟩
 ·rw [h1] at h;cases h
 ·rw [h1] at h;cases h;exact List.mem_of_getElem? h2
def tyD:Option Dv→Value
 | none=>.agg #[.int .i64 0,.string ⟨#[]⟩]
 | some e=>.agg #[.int .i64 e.d,.string e.nm]
def dvF (es:List Dv) (r:Int):Int:=match dvI es r with
 | none=>obE r
 | some _=>0
theorem typ_no {W:World} {S:Nat→Prop} {r b:Nat} {tv ev:Value} {es:List Dv} (h:RhAt W S r b tv ev es) (x:Int) (hx:x<1∨(es.length:Int)<x):Calls Tryz.prog 40 #[.pointer (some ⟨r,0,none⟩),.int .i64 x] W fun e w'=>e=.returned (.tuple #[.agg #[.int .i64 0,.string ⟨#[]⟩],.int .i64 (obE x)])∧Bw W w':=by
 obtain ⟨c0,c1,c2,fz,hl⟩:=h.cells
 obtain ⟨a,c,rfl⟩:=ownv h.tw
 have hn:¬ r=W.heap.size:=by omega
 clear h c0 c2 fz
 by_cases h0:x=0
 ·subst h0
  go_enter Tryz.func40,Tryz.ntmps40
  go_wp2
  refine bodyPost_ret (v:=.tuple #[.agg #[.int .i64 0,.string ⟨#[]⟩],.int .i64 26]) (by simp [results,Tryz.results40,go_sem]) rfl ⟨rfl,sqR⟩
 ·have e:obE x=3:=by rw [obE,if_neg h0]
  rw [e]
  by_cases h1:x<0
  ·go_enter Tryz.func40,Tryz.ntmps40
   go_wp2
   refine bodyPost_ret (v:=.tuple #[.agg #[.int .i64 0,.string ⟨#[]⟩],.int .i64 3]) (by simp [results,Tryz.results40,go_sem]) rfl ⟨rfl,sqR⟩
  ·have h2:(es.length:Int)<x:=by omega
   go_enter Tryz.func40,Tryz.ntmps40
   go_wp2
   refine bodyPost_ret (v:=.tuple #[.agg #[.int .i64 0,.string ⟨#[]⟩],.int .i64 3]) (by simp [results,Tryz.results40,go_sem]) rfl ⟨rfl,sqR⟩
theorem typ_yes {W:World} {S:Nat→Prop} {r b:Nat} {tv ev:Value} {es:List Dv} (h:RhAt W S r b tv ev es) (k:Nat) (e:Dv) (hk:es[k]?=some e):Calls Tryz.prog 40 #[.pointer (some ⟨r,0,none⟩),.int .i64 ((k:Int)+1)] W fun e' w'=>e'=.returned (.tuple #[.agg #[.int .i64 e.d,.string e.nm],.int .i64 0])∧Bw W w':=by
 obtain ⟨c0,c1,c2,fz,hl⟩:=h.cells
 have hkl:=(List.getElem?_eq_some_iff.1 hk).1
 obtain ⟨g,c,rfl⟩:=Go.Joins.ownsRow_form h.tw (by omega)
 have e0:W.cell? ⟨g,k * 2,none⟩=some (.int .i64 e.d):=(h.tw.cellAt (k * 2) (by omega)).trans (Zaw es k e hk).1
 have e1:W.cell? ⟨g,k * 2+1,none⟩=some (.string e.nm):=(h.tw.cellAt (k * 2+1) (by omega)).trans (Zaw es k e hk).2
 have hgl:g<W.heap.size:=World.block_lt_of_cell? W _ e0
 have hn:¬ r=W.heap.size:=by omega
 have hn2:¬ g=W.heap.size:=by omega
 have g0:¬ ((k:Int)+1=0):=by omega
 have g1:¬ ((k:Int)+1<0):=by omega
 have g2:¬ ((es.length:Int)<(k:Int)+1):=by omega
 have g3:(k:Int)<(es.length:Int):=by omega
 have n1:=h.n1
 obtain ⟨n,hN⟩:∃ n,es.length=n:=⟨_,rfl⟩
 rw [hN] at c1 g2 g3 hkl n1
 clear h c0 c2 fz hk hN
 go_enter Tryz.func40,Tryz.ntmps40
 go_wp2
 refine bodyPost_ret (v:=.tuple #[.agg #[.int .i64 e.d,.string e.nm],.int .i64 0]) (by simp [results,Tryz.results40,go_sem]) rfl ⟨rfl,sqR⟩
theorem typ_d {W:World} {S:Nat→Prop} {r b:Nat} {tv ev:Value} {es:List Dv} (h:RhAt W S r b tv ev es) (x:Int):Calls Tryz.prog 40 #[.pointer (some ⟨r,0,none⟩),.int .i64 x] W fun e w'=>e=.returned (.tuple #[tyD (dvI es x),.int .i64 (dvF es x)])∧Bw W w':=by
 rcases Xg es x with ⟨h1,h2⟩|⟨k,o,rfl,h2,h1⟩
 ·rw [dvF,h1];exact typ_no h x h2
 ·rw [dvF,h1];exact typ_yes h k o h2
def daO (es:List Dv) (r:Int):Option Dv:=(dvI es r).bind fun o=>if o.d=0 then none else some o
def daF (es:List Dv) (r:Int):Int:=match dvI es r with
 | none=>obE r
 | some o=>if o.d=0 then 2 else 0
def lnD:Option Dv→Nat
 | none=>0
 | some e=>e.vs.length
theorem Zke {W:World} {S:Nat→Prop} {r b:Nat} {tv ev:Value} {es:List Dv} (h:RhAt W S r b tv ev es) (x:Int):Calls Tryz.prog 9 #[.pointer (some ⟨r,0,none⟩),.int .i64 x] W fun e w'=>e=.returned (.tuple #[.int .i64 (lnD (daO es x):Int),.int .i64 (daF es x)])∧Bw W w':=by
 have HT:Hid (∀ w,Bw W w→Calls Tryz.prog 40 #[.pointer (some ⟨r,0,none⟩),.int .i64 x] w fun e w'=>e=.returned (.tuple #[tyD (dvI es x),.int .i64 (dvF es x)])∧Bw w w'):=fun w hw=>typ_d (h.below hw) x
 obtain ⟨c0,c1,c2,fz,hl⟩:=h.cells
 rcases Xg es x with ⟨h1,h2⟩|⟨k,o,rfl,h2,h1⟩
 ·have q1:dvF es x=obE x:=by rw [dvF,h1]
  have q2:daF es x=obE x:=by rw [daF,h1]
  have q3:daO es x=none:=by rw [daO,h1];rfl
  rw [h1,q1,tyD] at HT
  rw [q2,q3,lnD]
  have hE:=Zba x
  generalize obE x=E at *
  clear h h1 h2 q1 q2 q3 c0 c1 c2 fz
  go_enter Tryz.func9,Tryz.ntmps9
  go_wp2_with (go_at_call 40;refine (HT.out _ (Below.refl _ _)).mono ?_;rintro e w1 ⟨rfl,hB⟩;have B1:Hid (Bw W w1):=hB;clear hB HT)
  go_ret2
  exact ⟨rfl,B1.out.alloc B1.out.size _⟩
 ·have q1:dvF es ((k:Int)+1)=0:=by rw [dvF,h1]
  rw [h1,q1,tyD] at HT
  by_cases hd:o.d=0
  ·have q2:daF es ((k:Int)+1)=2:=by rw [daF,h1];simp [hd]
   have q3:daO es ((k:Int)+1)=none:=by rw [daO,h1];simp [hd]
   rw [q2,q3,lnD]
   rw [hd] at HT
   clear h h1 h2 q1 q2 q3 c0 c1 c2 fz
   go_enter Tryz.func9,Tryz.ntmps9
   go_wp2_with (go_at_call 40;refine (HT.out _ (Below.refl _ _)).mono ?_;rintro e w1 ⟨rfl,hB⟩;have B1:Hid (Bw W w1):=hB;clear hB HT)
   go_ret2
   exact ⟨rfl,B1.out.alloc B1.out.size _⟩
  ·have q2:daF es ((k:Int)+1)=0:=by rw [daF,h1];simp [hd]
   have q3:daO es ((k:Int)+1)=some o:=by rw [daO,h1];simp [hd]
   rw [q2,q3,lnD]
   have hkl:=(List.getElem?_eq_some_iff.1 h2).1
   obtain ⟨g,c,rfl⟩:=Go.Joins.ownsRow_form h.vw (by omega)
   obtain ⟨av,hav⟩:=Zhl o (h.no o (List.mem_of_getElem? h2))
   have e0:W.cell? ⟨g,k,none⟩=some (.slice av o.vs.length o.vs.length):=by
    have:=h.vw.cellAt k (by omega)
    rw [this,List.getElem?_map,h2];simp [hav]
   have hgl:g<W.heap.size:=World.block_lt_of_cell? W _ e0
   have n1:=h.n1
   have g3:(k:Int)<(es.length:Int):=by omega
   obtain ⟨n,hN⟩:∃ n,es.length=n:=⟨_,rfl⟩
   obtain ⟨m,hm⟩:∃ m,o.vs.length=m:=⟨_,rfl⟩
   rw [hN] at c2 g3 n1
   rw [hm] at e0 ⊢
   clear h h1 h2 q1 q2 q3 c0 c1 fz hN hm hav hkl
   go_enter Tryz.func9,Tryz.ntmps9
   go_wp2_with (go_at_call 40;refine (HT.out _ (Below.refl _ _)).mono ?_;rintro e w1 ⟨rfl,hB⟩;have B1:Hid (Bw W w1):=hB;have y2:=(hB.cell (p:=⟨r,2,none⟩) hl).trans c2;have ye:=(hB.cell (p:=⟨g,k,none⟩) hgl).trans e0;have yl:r<w1.heap.size:=(by have:=hB.size;omega);have yn:¬ r=w1.heap.size:=(by omega);have ygl:g<w1.heap.size:=(by have:=hB.size;omega);have ygn:¬ g=w1.heap.size:=(by omega);clear hB HT)
   go_ret2
   exact ⟨rfl,B1.out.alloc B1.out.size _⟩
theorem Zhn {es:List Dv} {r:Int} (h:daO es r=none):¬ daF es r=0:=by
 unfold daO at h
 unfold daF
 cases e:dvI es r with
 | none=>exact Zba r
 | some o =>
   rw [e] at h
   simp only [Option.bind_some] at h
   split at h
   ·rename_i hd;simp [hd]
   ·cases h
theorem Zgg {es:List Dv} {r:Int} {o:Dv} (h:daO es r=some o):dvI es r=some o∧¬ o.d=0:=by
 unfold daO at h
 cases e:dvI es r with
 | none=>rw [e] at h;cases h
 | some q =>
   rw [e] at h
   simp only [Option.bind_some] at h
   split at h
   ·cases h
   ·cases h;exact ⟨rfl,by assumption⟩
theorem Zhm {es:List Dv} {r:Int} {o:Dv} (h:daO es r=some o):daF es r=0:=by
 obtain ⟨h1,h2⟩:=Zgg h
 rw [daF,h1];simp [h2]
def gdE (es:List Dv) (r i:Int):Int:=match daO es r with
 | none=>daF es r
 | some o=>if 0≤i∧i<(o.vs.length:Int) then 0 else 31
def gdV (es:List Dv) (r i:Int):Bool×Int:=match daO es r with
 | none=>(false,0)
 | some o=>if 0≤i∧i<(o.vs.length:Int) then (o.vs[i.toNat]?).getD (false,0) else (false,0)
theorem get_d {W:World} {S:Nat→Prop} {r b:Nat} {tv ev:Value} {es:List Dv} (h:RhAt W S r b tv ev es) (x i:Int):Calls Tryz.prog 45 #[.pointer (some ⟨r,0,none⟩),.int .i64 x,.int .i64 i] W fun e w'=>e=.returned (.tuple #[.agg #[.bool (gdV es x i).1,.int .i64 (gdV es x i).2],.int .i64 (gdE es x i)])∧Bw W w':=by
 have HL:Hid (∀ w,Bw W w→Calls Tryz.prog 9 #[.pointer (some ⟨r,0,none⟩),.int .i64 x] w fun e w'=>e=.returned (.tuple #[.int .i64 (lnD (daO es x):Int),.int .i64 (daF es x)])∧Bw w w'):=fun w hw=>Zke (h.below hw) x
 have B0:Hid (Bw W (W.alloc (.cells #[.bool false,.int .i64 0] 38))):=(Below.refl _ _).alloc (Nat.le_refl _) _
 obtain ⟨c0,c1,c2,fz,hl⟩:=h.cells
 have A1:Hid True:=trivial
 cases ho:daO es x with
 | none =>
   have q1:gdE es x i=daF es x:=by rw [gdE,ho]
   have q2:gdV es x i=(false,0):=by rw [gdV,ho]
   have hE:=Zhn ho
   rw [ho,lnD] at HL
   rw [q1,q2]
   generalize daF es x=E at *
   clear h ho q1 q2 c0 c1 c2 fz
   go_enter Tryz.func45,Tryz.ntmps45
   go_wp2_with (go_at_call 9;refine (HL.out _ B0.out).mono ?_;rintro e w1 ⟨rfl,hB⟩;have B1:Hid (Bw W w1):=Za B0.out hB;obtain ⟨zB,z0,z1,zf,zL,zN⟩:=k2c (n:=W.heap.size) hB;clear hB HL)
   refine bodyPost_ret (v:=.tuple #[.agg #[.bool false,.int .i64 0],.int .i64 E]) (by simp [results,Tryz.results45,go_sem, *]) rfl ⟨rfl,?_⟩
   repeat (first|exact B1.out|refine Below.setCell ?_ (by simp;try omega) _|refine Below.alloc ?_ (by simp;try omega) _)
 | some o =>
   rw [ho,lnD,Zhm ho] at HL
   by_cases hi:0≤i∧i<(o.vs.length:Int)
   ·obtain ⟨j,rfl⟩:∃ j:Nat,i=(j:Int):=⟨i.toNat,by omega⟩
    have hj:j<o.vs.length:=by omega
    obtain ⟨⟨p,q⟩,hpq⟩:∃ v,o.vs[j]?=some v:=⟨_,List.getElem?_eq_getElem hj⟩
    have q1:gdE es x j=0:=by rw [gdE,ho];simp only;rw [if_pos hi]
    have q2:gdV es x j=(p,q):=by rw [gdV,ho];simp only;rw [if_pos hi,Int.toNat_natCast,hpq];rfl
    rw [q1,q2]
    obtain ⟨hd1,hd2⟩:=Zgg ho
    rcases Xg es x with ⟨h1,_⟩|⟨k,o',rfl,h2,h1⟩
    ·rw [h1] at hd1;cases hd1
    rw [h1] at hd1
    cases hd1
    have hkl:=(List.getElem?_eq_some_iff.1 h2).1
    obtain ⟨g,c,rfl⟩:=Go.Joins.ownsRow_form h.vw (by omega)
    obtain ⟨g2,hg2⟩:∃ g2,o.eb=some g2:=by
     cases e:o.eb with
     | none=>rw [h.no o (List.mem_of_getElem? h2) e] at hj;simp at hj
     | some y=>exact ⟨y,rfl⟩
    have e0:W.cell? ⟨g,k,none⟩=some (.slice (some ⟨g2,0,none⟩) o.vs.length o.vs.length):=by
     have:=h.vw.cellAt k (by omega)
     rw [this,List.getElem?_map,h2];simp [dvV,hg2,ebV]
    have hblk:=h.el o (List.mem_of_getElem? h2) g2 hg2
    have e1:W.cell? ⟨g2,j * 2,none⟩=some (.bool p):=by rw [cell_of_row W g2 (j * 2) _ _ _ hblk];simpa using (Xp o.vs j _ hpq).1
    have e2:W.cell? ⟨g2,j * 2+1,none⟩=some (.int .i64 q):=by rw [cell_of_row W g2 (j * 2+1) _ _ _ hblk];simpa using (Xp o.vs j _ hpq).2
    have hgl:g<W.heap.size:=World.block_lt_of_cell? W _ e0
    have hgl2:g2<W.heap.size:=World.block_lt_of_cell? W _ e1
    have n1:=h.n1
    have n2:o.vs.length≤20000:=by
     have:=Xy (es.take k) (es.drop k)
     rw [List.take_append_drop,List.drop_eq_getElem_cons hkl] at this
     have e3:es[k]=o:=by have:=List.getElem?_eq_getElem hkl;rw [h2] at this;exact (Option.some.inj this).symm
     rw [e3,wdD] at this
     have:=h.n2
     omega
    have g3:(k:Int)<(es.length:Int):=by omega
    have g4:(j:Int)<(o.vs.length:Int):=by omega
    obtain ⟨n,hN⟩:∃ n,es.length=n:=⟨_,rfl⟩
    obtain ⟨m,hm⟩:∃ m,o.vs.length=m:=⟨_,rfl⟩
    rw [hN] at c2 g3 n1
    rw [hm] at e0 g4 n2 HL
    clear h h1 h2 q1 q2 c0 c1 fz hN hm hkl hpq hj hi hblk ho hg2
    go_enter Tryz.func45,Tryz.ntmps45
    go_wp2_with (go_at_call 9;refine (HL.out _ B0.out).mono ?_;rintro e w1 ⟨rfl,hB⟩;have B1:Hid (Bw W w1):=Za B0.out hB;obtain ⟨zB,z0,z1,zf,zL,zN⟩:=k2c (n:=W.heap.size) hB;have y2:=(B1.out.cell (p:=⟨r,2,none⟩) hl).trans c2;have ye:=(B1.out.cell (p:=⟨g,k,none⟩) hgl).trans e0;have yp:=(B1.out.cell (p:=⟨g2,j * 2,none⟩) hgl2).trans e1;have yq:=(B1.out.cell (p:=⟨g2,j * 2+1,none⟩) hgl2).trans e2;clear hB HL)
    refine bodyPost_ret (v:=.tuple #[.agg #[.bool p,.int .i64 q],.int .i64 0]) (by simp [results,Tryz.results45,go_sem, *]) rfl ⟨rfl,?_⟩
    repeat (first|exact B1.out|refine Below.setCell ?_ (by simp;try omega) _|refine Below.alloc ?_ (by simp;try omega) _)
   ·have q1:gdE es x i=31:=by rw [gdE,ho];simp only;rw [if_neg hi]
    have q2:gdV es x i=(false,0):=by rw [gdV,ho];simp only;rw [if_neg hi]
    rw [q1,q2]
    obtain ⟨m,hm⟩:∃ m,o.vs.length=m:=⟨_,rfl⟩
    rw [hm] at HL hi
    have hi2:i<0∨(¬ i<0∧(m:Int)≤i):=by omega
    clear h ho q1 q2 c0 c1 c2 fz hm hi
    rcases hi2 with h3|⟨h3,h4⟩
    all_goals
     go_enter Tryz.func45,Tryz.ntmps45
     go_wp2_with (go_at_call 9;refine (HL.out _ B0.out).mono ?_;rintro e w1 ⟨rfl,hB⟩;have B1:Hid (Bw W w1):=Za B0.out hB;obtain ⟨zB,z0,z1,zf,zL,zN⟩:=k2c (n:=W.heap.size) hB;clear hB HL)
     refine bodyPost_ret (v:=.tuple #[.agg #[.bool false,.int .i64 0],.int .i64 31]) (by simp [results,Tryz.results45,go_sem, *]) rfl ⟨rfl,?_⟩
     repeat (first|exact B1.out|refine Below.setCell ?_ (by simp;try omega) _|refine Below.alloc ?_ (by simp;try omega) _)
theorem Zp {w:World} {N e s n g:Nat} {v:Value} {xs:List Value} {C:Array Value} {t:Nat} (h:w.ownsRow N e s v n xs) (hg:w.heap[g]?=some (.cells C t (0,0))) (ht:t≠e):v.ownBlock≠some g:=by
 intro hv
 rcases h.2 with ⟨rfl,_⟩|⟨x,cap,cur,rfl,_,h2,_⟩
 ·simp [Value.ownBlock] at hv
 ·simp [Value.ownBlock] at hv
  subst hv
  rw [hg] at h2
  simp at h2
  exact ht h2.2
theorem RhAt.push {W w':World} {S:Nat→Prop} {r b:Nat} {tv ev tv' ev':Value} {es:List Dv} (h:RhAt W S r b tv ev es) (e:Dv) (hn:es.length<1000) (hw:wdD es+e.vs.length≤20000) (ho:e.eb=none→e.vs=[])
 (hg:∀ g,e.eb=some g→S g∧W.heap[g]?=some (.cells (Ya e.vs).toArray 38 (0,0))∧∀ p∈es,p.eb≠some g)
 (hz:W.heap.size≤w'.heap.size) (kp:∀ k,k<W.heap.size→k≠r→tv.ownBlock≠some k→ev.ownBlock≠some k→w'.heap[k]?=W.heap[k]?)
 (hr:w'.heap[r]?=some (.cells #[.pointer (some ⟨b,0,none⟩),tv',ev'] 35 (0,0))) (O1:w'.ownsRow 0 40 2 tv' (es.length+1) (Yt es++[.int .i64 e.d,.string e.nm])) (O2:w'.ownsRow 0 105 1 ev' (es.length+1) (es.map dvV++[dvV e]))
 (h1:∀ k,tv'.ownBlock=some k→tv.ownBlock=some k∨W.heap.size≤k) (h2:∀ k,ev'.ownBlock=some k→ev.ownBlock=some k∨W.heap.size≤k) :
 RhAt w' (gS S W.heap.size w'.heap.size) r b tv' ev' (es++[e]):=by
 have e5:wdD (es++[e])=wdD es+e.vs.length:=by rw [Xy];simp [wdD]
 have far:∀ (g:Nat) (C:Array Value),W.heap[g]?=some (.cells C 38 (0,0))→w'.heap[g]?=some (.cells C 38 (0,0)):=fun g C hC=>by
  refine (kp g (Array.getElem?_eq_some_iff.1 hC).1 ?_ (Zp h.tw hC (by decide)) (Zp h.vw hC (by decide))).trans hC
  rintro rfl
  rw [h.hh] at hC
  simp at hC
 refine { sz:=fun k hk=>?_,rS:=.inl h.rS,tS:=fun k hk=>?_,vS:=fun k hk=>?_,eS:=fun p hp g hg'=>?_,hh:=hr,tw:=?_,vw:=?_,el:=fun p hp g hg'=>?_,no:=fun p hp hn=>?_,dj:=fun i j p q g hi hj hp hq=>?_,n1:=by simp;omega,n2:=by omega }
 ·exact hk.elim (fun x=>Nat.lt_of_lt_of_le (h.sz k x) hz) (fun x=>x.2)
 ·rcases h1 k hk with x|x
  ·exact .inl (h.tS k x)
  ·exact .inr ⟨x,(O1.lt k hk).2⟩
 ·rcases h2 k hk with x|x
  ·exact .inl (h.vS k x)
  ·exact .inr ⟨x,(O2.lt k hk).2⟩
 ·rcases List.mem_append.1 hp with hp|hp
  ·exact .inl (h.eS p hp g hg')
  ·simp at hp;subst hp;exact .inl (hg g hg').1
 ·rw [show (es++[e]).length=es.length+1 by simp,Zbf]
  simpa [Yt] using O1
 ·rw [show (es++[e]).length=es.length+1 by simp,List.map_append]
  simpa using O2
 ·rcases List.mem_append.1 hp with hp|hp
  ·exact far g _ (h.el p hp g hg')
  ·simp at hp;subst hp;exact far g _ (hg g hg').2.1
 ·rcases List.mem_append.1 hp with hp|hp
  ·exact h.no p hp hn
  ·simp at hp;subst hp;exact ho hn
 ·have at_o:∀ {k:Nat} {z:Dv},(es++[e])[k]?=some z→(k<es.length∧es[k]?=some z)∨(k=es.length∧z=e):=fun {k z} hk=>by
   by_cases hl:k<es.length
   ·exact .inl ⟨hl,by rw [List.getElem?_append_left hl] at hk;exact hk⟩
   ·rw [List.getElem?_append_right (by omega)] at hk
    by_cases x:k - es.length=0
    ·rw [x] at hk;simp at hk;exact .inr ⟨by omega,hk.symm⟩
    ·rw [List.getElem?_eq_none (by simp;omega)] at hk;cases hk
  rcases at_o hi with ⟨_,i2⟩|⟨i2,ei⟩ <;> rcases at_o hj with ⟨_,j2⟩|⟨j2,ej⟩
  ·exact h.dj i j p q g i2 j2 hp hq
  ·subst ej;exact absurd hp ((hg g hq).2.2 p (List.mem_of_getElem? i2))
  ·subst ei;exact absurd hq ((hg g hp).2.2 q (List.mem_of_getElem? j2))
  ·omega
theorem Tryz.hinfoVl:(Tryz.prog.info? 38).map (fun i=>(i.zero,i.size,i.bytes))=some (some (.agg #[.bool false,.int .i64 0]),2,16):=by kernel_rfl
theorem Tryz.hinfoTy:(Tryz.prog.info? 40).map (fun i=>(i.zero,i.size,i.bytes))=some (some (.agg #[.int .i64 0,.string ⟨#[]⟩]),2,24):=by kernel_rfl
theorem Tryz.hinfoSv:(Tryz.prog.info? 105).map (fun i=>(i.zero,i.size,i.bytes))=some (some (.slice none 0 0),1,24):=by kernel_rfl
theorem Zkl (n:Nat) (k:Nat) (hk:k<n * 2):(Ya (List.replicate n (false,(0:Int))))[k]?=some (if k % 2=0 then .bool false else .int .i64 0):=by
 have hq:k / 2<n:=by omega
 have:=Xp (List.replicate n (false,(0:Int))) (k / 2) (false,0) (by simp [hq])
 by_cases h:k % 2=0
 ·rw [if_pos h];have e:k=k / 2 * 2:=by omega
  rw [e];simpa using this.1
 ·rw [if_neg h];have e:k=k / 2 * 2+1:=by omega
  rw [e];simpa using this.2
theorem mk_vals (n:Nat) (hn:n≤1000000) (w:World):(Instr.makeSlice 105 (.int .i64 (n:Int)) (.int .i64 (n:Int))).run Tryz.prog w=.ok (.slice (some ⟨w.heap.size,0,none⟩) n n) (w.alloc (.cells (Ya (List.replicate n (false,0))).toArray 38)):=by
 obtain ⟨i0,hi,hz0,hz1,hz2⟩:=info_parts Tryz.hinfoVl
 have:=run_make w (P:=Tryz.prog) 105 38 i0 _ Tryz.underlying105 hi hz0 .i64 .i64 (n:Int) (n:Int) (by omega) (Int.le_refl _) (by rw [hz2];omega) (by omega)
 rw [hz1,Int.toNat_natCast] at this
 rw [this]
 have e:madeCells (Value.agg #[.bool false,.int .i64 0]).cells (n * 2)=(Ya (List.replicate n (false,0))).toArray:=by
  apply Array.ext_getElem?
  intro k
  by_cases hk:k<n * 2
  ·have e1:(Ya (List.replicate n (false,(0:Int)))).toArray[k]?=some (if k % 2=0 then .bool false else .int .i64 0):=by rw [List.getElem?_toArray];exact Zkl n k hk
   rw [e1,Array.getElem?_eq_getElem (by rw [size_madeCells];exact hk)]
   simp only [madeCells,Value.cells]
   have h2:k % 2=0∨k % 2=1:=by omega
   rcases h2 with h2|h2 <;> simp [h2]
  ·have e1:(Ya (List.replicate n (false,(0:Int)))).toArray[k]?=none:=by rw [List.getElem?_toArray];exact List.getElem?_eq_none (by rw [Zey];simp;omega)
   rw [e1,Array.getElem?_eq_none (by rw [size_madeCells];omega)]
 rw [e]
end Go.Proofs.YtlnojhhddinjkaaGreat
