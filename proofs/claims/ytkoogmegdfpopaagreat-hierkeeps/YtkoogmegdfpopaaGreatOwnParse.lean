import Derived.Test.YtkoogmegdfpopaaGreatTys
import Derived.Deep.LoopGhost
set_option maxHeartbeats 4000000
set_option maxRecDepth 100000
namespace Go.Proofs.YtkoogmegdfpopaaGreat
open Go.RowKit
structure Ra (W:World) (b:Nat) (s:ByteArray) (q:Nat) (v:Value) (ts:List (Nat×List UInt8)) (wr:World):Prop where
 cur:Cur wr b s q
 own:wr.ownsRow W.heap.size 122 2 v ts.length (Ye (ts.map natT))
 gr:W.grownBy wr (some b)
 hb:b<W.heap.size
 le:q≤s.size
 tl:ts.length≤q
theorem Ra.step {W wr w1:World} {b:Nat} {s:ByteArray} {q q':Nat} {v:Value} {ts:List (Nat×List UInt8)} (h:Ra W b s q v ts wr) (hc:Cur w1 b s q') (hg:wr.grownBy w1 (some b)) (hq:q'≤s.size) (hqq:q≤q'):Ra W b s q' v ts w1 :=
 ⟨hc,h.own.kept hg (.inr (fun e=>by have:=(h.own.lt b e).1;have:=h.hb;omega)),grownBy_trans h.gr hg (fun _ e=>.inl e),h.hb,hq,Nat.le_trans h.tl hqq⟩
theorem Ra.app {W wr w2:World} {b:Nat} {s:ByteArray} {q:Nat} {v v':Value} {ts:List (Nat×List UInt8)} {k:Nat} {nm:List UInt8} (o1 o2:Obj) (h:Ra W b s q v ts wr) (hlt:ts.length<q)
 (ho:w2.ownsRow W.heap.size 122 2 v' (ts.length+1) (Ye (ts.map natT)++[.int .i64 k,.string ⟨nm.toArray⟩])) (hg:((wr.alloc o1).alloc o2).grownBy w2 v.ownBlock):Ra W b s q v' (ts++[(k,nm)]) w2:=by
 have hbel:Bw wr ((wr.alloc o1).alloc o2):=((Below.refl _ _).alloc (Nat.le_refl _) _).alloc (by simp) _
 have hbn:some b≠v.ownBlock:=fun e=>by have:=(h.own.lt b e.symm).1;have:=h.hb;omega
 refine ⟨?_,?_,?_,h.hb,h.le,by simp;omega⟩
 ·have hc:=h.cur.keep hbel
  unfold Cur at *
  rw [hg.block b (Array.getElem?_eq_some_iff.1 hc).1 hbn]
  exact hc
 ·have e:Ye ((ts++[(k,nm)]).map natT)=Ye (ts.map natT)++[.int .i64 k,.string ⟨nm.toArray⟩]:=by simp [Ye,tyC,natT]
  rw [e,List.length_append]
  exact ho
 ·exact grownBy_trans (grownBy_trans h.gr (grownBy_below hbel (r:=some b)) (fun _ e=>.inl e)) hg (fun x e=>.inr (h.own.lt x e).1)
theorem two_new (w:World) (x y:Value) (t:TypeId):∀ j u,[x,y][j]?=some u→(w.alloc (.cells #[x,y] t)).cell? ((⟨w.heap.size,0,none⟩:Addr).add j)=some u:=by
 intro j u hj
 match j,hj with
 | 0,hj=>simp at hj;subst hj;rw [Addr.add_lit,cell_of_row _ w.heap.size 0 _ t (0,0) (heap_alloc_new w _)];rfl
 | 1,hj=>simp at hj;subst hj;rw [Addr.add_lit,cell_of_row _ w.heap.size 1 _ t (0,0) (heap_alloc_new w _)];rfl
theorem Zbv (w:World) (o:Obj) (x y:Value) (t:TypeId):∀ j u,[x,y][j]?=some u→((w.alloc o).alloc (.cells #[x,y] t)).cell? ((⟨w.heap.size+1,0,none⟩:Addr).add j)=some u:=by
 intro j u hj
 have h:=two_new (w.alloc o) x y t j u hj
 rw [show (w.alloc o).heap.size=w.heap.size+1 by simp] at h
 exact h
def Jp (s:ByteArray) (pl b:Nat) (W:World) (e:Ending) (w':World):Prop:=match Z7 (s.data.toList.drop pl) with
 | some (ts,r)=>∃ v,e=.returned (.tuple #[v,.bool true])∧w'.ownsRow W.heap.size 122 2 v ts.length (Ye (ts.map natT))∧Cur w' b s (s.size - r.length)
 | none=>e=.returned (.tuple #[.slice none 0 0,.bool false])∧∃ q,q≤s.size∧Cur w' b s q
theorem Zbr {s:ByteArray} {pl b q:Nat} {W w':World} (h:Z7 (s.data.toList.drop pl)=none) (hq:q≤s.size) (hc:Cur w' b s q):Jp s pl b W (.returned (.tuple #[.slice none 0 0,.bool false])) w':=by
 unfold Jp;rw [h];exact ⟨rfl,q,hq,hc⟩
theorem Zg9 {s:ByteArray} {pl b q:Nat} {W w':World} {ts:List (Nat×List UInt8)} {r:List UInt8} {v:Value} (h:Z7 (s.data.toList.drop pl)=some (ts,r)) (hp:q=s.size - r.length)
 (ho:w'.ownsRow W.heap.size 122 2 v ts.length (Ye (ts.map natT))) (hc:Cur w' b s q):Jp s pl b W (.returned (.tuple #[v,.bool true])) w':=by
 unfold Jp;rw [h];rw [hp] at hc;exact ⟨v,rfl,ho,hc⟩
theorem Ze6 {s:ByteArray} {pl:Nat} (h:nxt s pl 40=true):Z7 (s.data.toList.drop pl)=raf (s.data.toList.drop (pl+1)):=by
 have hlt:=Xy h
 rw [Xp s pl 40 hlt] at h
 rw [Zo s pl hlt]
 simp at h
 rw [h];rfl
theorem Ze5 {s:ByteArray} {pl:Nat} (h:nxt s pl 40=false):Z7 (s.data.toList.drop pl)=none:=by
 by_cases hlt:pl<s.size
 ·rw [Xp s pl 40 hlt] at h
  rw [Zo s pl hlt]
  simp at h
  unfold Z7
  split
  ·rename_i e;simp at e;exact absurd e.1 h
  ·rfl
 ·rw [Y3 s pl (by omega)];rfl
theorem Zc9 (b:Nat) (s:ByteArray) (pl:Nat) (hpl:pl≤s.size) (hs:s.size≤1000000) (W:World) (hc:Cur W b s pl) :
 Calls Tryz.prog 126 #[.pointer (some ⟨b,0,none⟩)] W fun e w'=>Jp s pl b W e w'∧W.grownBy w' (some b):=by
 obtain ⟨i24,hi24,hz0,hz1,hz2⟩:=info_parts Tryz.info122
 have HS:Hid (∀ (m:UInt8) (q:Nat) (v:Value) (ts:List (Nat×List UInt8)) (w:World),Hid (Ra W b s q v ts w)→Calls Tryz.prog 127 #[.pointer (some ⟨b,0,none⟩),.string ⟨#[m]⟩] w fun e w'=>e=.returned (.bool (nxt s q m))∧Hid (Ra W b s (if nxt s q m then q+1 else q) v ts w')) :=
  fun m q v ts w h=>(Zbw b s q m h.out.le hs w h.out.cur).mono fun e w' ⟨he,hc,hg⟩=>⟨he,h.out.step hc hg (by
   have:=h.out.le
   split
   ·rename_i e;have:=Xy e;omega
   ·exact this) (by split <;> omega)⟩
 have HT:∀ (q:Nat) (v:Value) (ts:List (Nat×List UInt8)) (w:World),Hid (Ra W b s q v ts w)→Calls Tryz.prog 128 #[.pointer (some ⟨b,0,none⟩)] w fun e w'=>Yc s q b e w'∧w.grownBy w' (some b) :=
  fun q v ts w h=>Xm b s q h.out.le hs w h.out.cur
 have H0:Hid (Ra W b s pl (.slice none 0 0) [] W):=⟨hc,World.ownsRow_nil _ _ _ _,⟨rfl,rfl,rfl,Nat.le_refl _,fun _ _ _=>rfl⟩,hc.cells.2.2.2,hpl,Nat.zero_le _⟩
 have hsz:s.data.toList.length=s.size:=by simp
 have HSZ:Hid _:=hsz
 clear hsz hc
 cases h40:nxt s pl 40 with
 | false =>
   have HP:Hid _:=Ze5 h40
   clear HT
   go_enter Tryz.func126,Tryz.ntmps126
   go_wp2
   go_step3
   go_wp2_with (go_at_call 127;refine (HS.out _ _ _ _ _ H0).mono ?_;rintro e w1 ⟨rfl,R1⟩;rw [h40,if_neg Bool.false_ne_true] at R1)
   try rw [Exit.noGoto_ret]
   go_ret2
   exact ⟨Zbr HP.out R1.out.le R1.out.cur,R1.out.gr⟩
 | true =>
   have HO:Hid _:=Ze6 h40
   go_enter Tryz.func126,Tryz.ntmps126
   go_wp2
   go_step3
   go_wp2_with (go_at_call 127;refine (HS.out _ _ _ _ _ H0).mono ?_;rintro e w1 ⟨rfl,R1⟩;rw [h40,if_pos rfl] at R1)
   go_step3
   go_wp2
   clear H0
   go_loopg [4] (s.size - pl) (fun g v wr=>∃ q ts,q+g=s.size+1∧Hid (Ra W b s q v ts wr)∧Hid (Z7 (s.data.toList.drop pl)=(raf (s.data.toList.drop q)).map (fun p=>(ts++p.1,p.2))))
   case atStart=>exact ⟨pl+1,[],by have:=R1.out.le;omega,R1,by rw [Hid,HO.out];cases raf (s.data.toList.drop (pl+1)) <;> rfl⟩
   case round =>
    clear R1 HO h40
    obtain ⟨q,ts,hg,hR,hA⟩:=hrel
    have hle:=hR.out.le
    have BAD:Hid (nxt s q 41=false→Zx (s.data.toList.drop q)=none→Z7 (s.data.toList.drop pl)=none):=by
     intro h1 h2
     rw [hA.out]
     by_cases hlt:q<s.size
     ·rw [Xp s q 41 hlt] at h1
      simp at h1
      rw [Zo s q hlt] at h2 ⊢
      rw [Zh0 h1 h2];rfl
     ·rw [Y3 s q (by omega),Zhy];rfl
    cases h41:nxt s q 41 with
    | true =>
      have hlt:=Xy h41
      have HP:Hid (Z7 (s.data.toList.drop pl)=some (ts,s.data.toList.drop (q+1))):=by
       have h1:=h41
       rw [Xp s q 41 hlt] at h1
       simp at h1
       rw [Hid,hA.out,Zo s q hlt,h1,Zhz]
       simp
      have HQ:Hid (q+1=s.size - (s.data.toList.drop (q+1)).length):=by rw [Hid,List.length_drop,HSZ.out];omega
      clear hA BAD HT
      go_wp2_with (go_at_call 127;refine (HS.out _ _ _ _ _ hR).mono ?_;rintro e w1 ⟨rfl,R1⟩;rw [h41,if_pos rfl] at R1)
      try rw [Exit.noGoto_ret]
      go_ret2
      exact ⟨Zg9 HP.out HQ.out R1.out.own R1.out.cur,R1.out.gr⟩
    | false =>
      cases hr:Zx (s.data.toList.drop q) with
      | none =>
        have HP:Hid _:=BAD.out h41 hr
        have HT':Hid (∀ v w,Hid (Ra W b s q v ts w)→Calls Tryz.prog 128 #[.pointer (some ⟨b,0,none⟩)] w fun e w'=>e=.returned (.tuple #[.agg #[.int .i64 0,.string ⟨#[]⟩],.bool false])∧Hid (∃ q',q'≤s.size∧Cur w' b s q'∧W.grownBy w' (some b))):=fun v w h =>
         (HT q v ts w h).mono fun e w' ⟨hp,hgr⟩=>by
          unfold Yc at hp
          rw [hr] at hp
          obtain ⟨he,q',hq',hc'⟩:=hp
          exact ⟨he,q',hq',hc',grownBy_trans h.out.gr hgr (fun _ e=>.inl e)⟩
        clear hA BAD HT hr
        go_wp2_with (first
         | (go_at_call 127;refine (HS.out _ _ _ _ _ hR).mono ?_;rintro e w1 ⟨rfl,R1⟩;rw [h41,if_neg Bool.false_ne_true] at R1)
         | (go_at_call 128;refine (HT'.out _ _ R1).mono ?_;rintro e w2 ⟨rfl,R2⟩))
        try rw [Exit.noGoto_ret]
        go_ret2
        obtain ⟨q',hq',hc',hg'⟩:=R2.out
        exact ⟨Zbr HP.out hq' (hc'.keep ((Below.refl _ _).alloc (Nat.le_refl _) _)),grownBy_trans hg' (grownBy_below ((Below.refl _ _).alloc (Nat.le_refl _) _) (r:=some b)) (fun _ e=>.inl e)⟩
      | some p =>
        obtain ⟨⟨k,nm⟩,r⟩:=p
        obtain ⟨hrd,hrq,hrl⟩:=Qn hr
        rw [HSZ.out] at hrd hrq hrl
        have HA:Hid (Z7 (s.data.toList.drop pl)=(raf (s.data.toList.drop (s.size - r.length))).map (fun p=>((ts++[(k,nm)])++p.1,p.2))):=by
         have hlt:q<s.size:=by omega
         have h1:=h41
         rw [Xp s q 41 hlt] at h1
         simp at h1
         have h2:=hr
         rw [Zo s q hlt] at h2
         rw [Hid,hA.out,Zo s q hlt,Zfi h1 h2,← hrd]
         cases raf r <;> simp
        have HT':Hid (∀ v w,Hid (Ra W b s q v ts w)→Calls Tryz.prog 128 #[.pointer (some ⟨b,0,none⟩)] w fun e w'=>e=.returned (.tuple #[.agg #[.int .i64 k,.string ⟨nm.toArray⟩],.bool true])∧Hid (Ra W b s (s.size - r.length) v ts w')):=fun v w h =>
         (HT q v ts w h).mono fun e w' ⟨hp,hgr⟩=>by
          unfold Yc at hp
          rw [hr] at hp
          exact ⟨hp.1,h.out.step hp.2 hgr (by omega) (by omega)⟩
        have htl:=hR.out.tl
        have hWs:=hR.out.gr.size
        obtain ⟨z,hz⟩:∃ z,s.size - r.length=z:=⟨_,rfl⟩
        rw [hz] at HA HT' hrq
        have hzs:z≤s.size:=by omega
        clear hA BAD HT hr hrd hrl hz
        go_wp2_with (first
         | (go_at_call 127;refine (HS.out _ _ _ _ _ hR).mono ?_;rintro e w1 ⟨rfl,R1⟩;rw [h41,if_neg Bool.false_ne_true] at R1)
         | (go_at_call 128;refine (HT'.out _ _ R1).mono ?_;rintro e w2 ⟨rfl,R2⟩;have hW2:=R2.out.gr.size)
         | (at_builtin;refine wpList_append_own _ rfl _ _ 120 rfl W.heap.size 122 i24 (.agg #[.int .i64 0,.string ⟨#[]⟩]) 2 24 Tryz.underlying120 hi24 hz0 hz1 hz2 rfl (by decide) _ _ _ rfl ((R2.out.own.alloc _).alloc _) ⟨w2.heap.size+1,0,none⟩ 1 1 [.int .i64 k,.string ⟨nm.toArray⟩] rfl rfl ?c1 ?c2 ?c3 ?c4 ?c5 ?_))
        case c1=>exact Zbv w2 _ _ _ _
        case c2=>intro u hu;simp at hu;rcases hu with rfl|rfl <;> rfl
        case c3=>unfold maxLen;omega
        case c4=>omega
        case c5=>simp;omega
        ·intro v' w3 hown' hgrow _
         have R3:Hid (Ra W b s z v' (ts++[(k,nm)]) w3):=Ra.app _ _ R2.out (by omega) hown' hgrow
         clear hown' hgrow R2 R1 hR
         go_wp2
         go_roundg (s.size+1 - z)
         case measure=>omega
         case rel=>exact ⟨z,ts++[(k,nm)],by omega,R3,HA⟩
theorem Zeg {l a r:List UInt8} (h:l=a++r):r=l.drop (l.length - r.length):=by
 have e:l.length - r.length=a.length:=by rw [h,List.length_append];omega
 rw [e,h,List.drop_left]
theorem Zjb {l:List UInt8} {q:Nat} {ts:List (Nat×List UInt8)} {r:List UInt8} (h:Z7 (l.drop q)=some (ts,r)):r=l.drop (l.length - r.length)∧r.length≤l.length:=by
 unfold Z7 at h
 split at h
 ·rename_i r0 e
  have hw:=(Zf1 h).1
  have e2:l=(l.take q++(40::Qj ts++[41]))++r:=by
   conv=>lhs;rw [← List.take_append_drop q l,e,hw]
   simp
  refine ⟨Zeg e2,?_⟩
  have:=congrArg List.length e2
  simp only [List.length_append] at this
  omega
 ·simp at h
def descOf (l:List UInt8):Option ((List (Nat×List UInt8)×Option (Nat×List UInt8))×List UInt8):=match Z7 l with
 | none=>none
 | some (ts,q)=>if q.head?=some 86 then some ((ts,none),q.drop 1) else match Zx q with
   | none=>none
   | some (t,r)=>some ((ts,some t),r)
def retT (x:Option (Nat×List UInt8)):Nat×List UInt8:=x.getD (0,[])
def X6 (x:Option (Nat×List UInt8)):Bool:=x.isNone
theorem J7 {w:World} {base base':Nat} {e:TypeId} {size:Nat} {v:Value} {n:Nat} {xs:List Value} (h:w.ownsRow base e size v n xs) (hb:base'≤base):w.ownsRow base' e size v n xs:=by
 refine ⟨h.1,?_⟩
 rcases h.2 with hn|⟨g,cap,cur,rfl,hb1,rest⟩
 ·exact .inl hn
 ·exact .inr ⟨g,cap,cur,rfl,Nat.le_trans hb hb1,rest⟩
theorem Zd {w:World} {base:Nat} {e:TypeId} {size:Nat} {v:Value} {n:Nat} {xs:List Value} (h:w.ownsRow base e size v n xs):∃ ao cap,v=.slice ao n cap:=by
 rcases h.2 with ⟨rfl,rfl⟩|⟨g,cap,cur,rfl,_⟩
 ·exact ⟨none,0,rfl⟩
 ·exact ⟨_,cap,rfl⟩
def Qh:Array Value:=#[.slice none 0 0,.bool false,.int .i64 0,.string ⟨#[]⟩]
structure Dd (W:World) (b:Nat) (s:ByteArray) (q:Nat) (v:Value) (ts:List (Nat×List UInt8)) (wr:World):Prop where
 cur:Cur wr b s q
 own:wr.ownsRow (W.heap.size+1) 122 2 v ts.length (Ye (ts.map natT))
 r:wr.heap[W.heap.size]?=some (.cells Qh 124 (0,0))
 gr:W.grownBy wr (some b)
 hb:b<W.heap.size
 le:q≤s.size
theorem Dd.step {W wr w1:World} {b:Nat} {s:ByteArray} {q q':Nat} {v:Value} {ts:List (Nat×List UInt8)} (h:Dd W b s q v ts wr) (hc:Cur w1 b s q') (hg:wr.grownBy w1 (some b)) (hq:q'≤s.size):Dd W b s q' v ts w1 :=
 ⟨hc,h.own.kept hg (.inr (fun e=>by have:=(h.own.lt b e).1;have:=h.hb;omega)),by rw [hg.block _ (Array.getElem?_eq_some_iff.1 h.r).1 (by have:=h.hb;simp;omega)];exact h.r,grownBy_trans h.gr hg (fun _ e=>.inl e),h.hb,hq⟩
theorem Dd.cells {W wr:World} {b:Nat} {s:ByteArray} {q:Nat} {v:Value} {ts:List (Nat×List UInt8)} (h:Dd W b s q v ts wr) :
 wr.cell? ⟨W.heap.size,0,none⟩=some (.slice none 0 0)∧wr.cell? ⟨W.heap.size,1,none⟩=some (.bool false)∧wr.cell? ⟨W.heap.size,2,none⟩=some (.int .i64 0)∧wr.cell? ⟨W.heap.size,3,none⟩=some (.string ⟨#[]⟩) ∧
 wr.frozen? ⟨W.heap.size,0,none⟩=false∧wr.frozen? ⟨W.heap.size,1,none⟩=false∧wr.frozen? ⟨W.heap.size,2,none⟩=false∧wr.frozen? ⟨W.heap.size,3,none⟩=false∧W.heap.size<wr.heap.size:=by
 refine ⟨?_,?_,?_,?_,?_,?_,?_,?_,(Array.getElem?_eq_some_iff.1 h.r).1⟩
 ·rw [cell_of_row _ W.heap.size 0 _ 124 (0,0) h.r];rfl
 ·rw [cell_of_row _ W.heap.size 1 _ 124 (0,0) h.r];rfl
 ·rw [cell_of_row _ W.heap.size 2 _ 124 (0,0) h.r];rfl
 ·rw [cell_of_row _ W.heap.size 3 _ 124 (0,0) h.r];rfl
 all_goals simp [World.frozen?,h.r]
def set4 (w:World) (n:Nat) (u0 u1 u2 u3:Value):World:=(((w.setCell ⟨n,0,none⟩ u0).setCell ⟨n,1,none⟩ u1).setCell ⟨n,2,none⟩ u2).setCell ⟨n,3,none⟩ u3
theorem Xu (w:World) (n:Nat) (u0 u1 u2 u3:Value):w.grownBy (set4 w n u0 u1 u2 u3) (some n) :=
 grownBy_trans (grownBy_trans (grownBy_trans (grownBy_set w n 0 u0) (grownBy_set _ n 1 u1) (fun _ e=>.inl e)) (grownBy_set _ n 2 u2) (fun _ e=>.inl e)) (grownBy_set _ n 3 u3) (fun _ e=>.inl e)
theorem Dd.done {W wr:World} {b:Nat} {s:ByteArray} {q:Nat} {v:Value} {ts:List (Nat×List UInt8)} (h:Dd W b s q v ts wr) (u0 u1 u2 u3:Value) :
 Cur (set4 wr W.heap.size u0 u1 u2 u3) b s q∧(set4 wr W.heap.size u0 u1 u2 u3).ownsRow W.heap.size 122 2 v ts.length (Ye (ts.map natT))∧W.grownBy (set4 wr W.heap.size u0 u1 u2 u3) (some b):=by
 have hb:=h.hb
 have hg:=Xu wr W.heap.size u0 u1 u2 u3
 refine ⟨?_,J7 (h.own.kept hg (.inr (fun e=>by have:=(h.own.lt _ e).1;omega))) (Nat.le_succ _),grownBy_trans h.gr hg (fun k e=>by simp at e;right;omega)⟩
 have hc:=h.cur
 unfold Cur at *
 rw [hg.block b (Array.getElem?_eq_some_iff.1 hc).1 (by simp;omega)]
 exact hc
def X5 (s:ByteArray) (pl b:Nat) (W:World) (e:Ending) (w':World):Prop:=match descOf (s.data.toList.drop pl) with
 | some ((ts,x),r)=>∃ v,e=.returned (.tuple #[.agg #[v,.bool (X6 x),.int .i64 (retT x).1,.string ⟨(retT x).2.toArray⟩],.bool true])∧w'.ownsRow W.heap.size 122 2 v ts.length (Ye (ts.map natT))∧Cur w' b s (s.size - r.length)
 | none=>e=.returned (.tuple #[.agg #[.slice none 0 0,.bool false,.int .i64 0,.string ⟨#[]⟩],.bool false])∧∃ q,q≤s.size∧Cur w' b s q
theorem Zbp {s:ByteArray} {pl b q:Nat} {W w':World} (h:descOf (s.data.toList.drop pl)=none) (hq:q≤s.size) (hc:Cur w' b s q):X5 s pl b W (.returned (.tuple #[.agg #[.slice none 0 0,.bool false,.int .i64 0,.string ⟨#[]⟩],.bool false])) w':=by
 unfold X5;rw [h];exact ⟨rfl,q,hq,hc⟩
theorem Zbo {s:ByteArray} {pl b q:Nat} {W w':World} {ts:List (Nat×List UInt8)} {x:Option (Nat×List UInt8)} {r:List UInt8} {v:Value} (h:descOf (s.data.toList.drop pl)=some ((ts,x),r)) (hp:q=s.size - r.length)
 (ho:w'.ownsRow W.heap.size 122 2 v ts.length (Ye (ts.map natT))) (hc:Cur w' b s q):X5 s pl b W (.returned (.tuple #[.agg #[v,.bool (X6 x),.int .i64 (retT x).1,.string ⟨(retT x).2.toArray⟩],.bool true])) w':=by
 unfold X5;rw [h];rw [hp] at hc;exact ⟨v,rfl,ho,hc⟩
theorem Zc8 (b:Nat) (s:ByteArray) (pl:Nat) (hpl:pl≤s.size) (hs:s.size≤1000000) (W:World) (hc:Cur W b s pl) :
 Calls Tryz.prog 111 #[.pointer (some ⟨b,0,none⟩)] W fun e w'=>X5 s pl b W e w'∧W.grownBy w' (some b):=by
 have hsz:s.data.toList.length=s.size:=by simp
 have HS:Hid (∀ (m:UInt8) (q:Nat) (v:Value) (ts:List (Nat×List UInt8)) (w:World),Hid (Dd W b s q v ts w)→Calls Tryz.prog 127 #[.pointer (some ⟨b,0,none⟩),.string ⟨#[m]⟩] w fun e w'=>e=.returned (.bool (nxt s q m))∧Hid (Dd W b s (if nxt s q m then q+1 else q) v ts w')) :=
  fun m q v ts w h=>(Zbw b s q m h.out.le hs w h.out.cur).mono fun e w' ⟨he,hc,hg⟩=>⟨he,h.out.step hc hg (by
   have:=h.out.le
   split
   ·rename_i e;have:=Xy e;omega
   ·exact this)⟩
 have HT:∀ (q:Nat) (v:Value) (ts:List (Nat×List UInt8)) (w:World),Hid (Dd W b s q v ts w)→Calls Tryz.prog 128 #[.pointer (some ⟨b,0,none⟩)] w fun e w'=>Yc s q b e w'∧w.grownBy w' (some b) :=
  fun q v ts w h=>Xm b s q h.out.le hs w h.out.cur
 have H0:Dd W b s pl (.slice none 0 0) [] (W.alloc (.cells Qh 124)):=⟨hc.keep ((Below.refl _ _).alloc (Nat.le_refl _) _),World.ownsRow_nil _ _ _ _,heap_alloc_new W _,grownBy_below ((Below.refl _ _).alloc (Nat.le_refl _) _),hc.cells.2.2.2,hpl⟩
 have HAR:=Zc9 b s pl hpl hs _ H0.cur
 unfold Jp at HAR
 cases ha:Z7 (s.data.toList.drop pl) with
 | none =>
   have HP:Hid (descOf (s.data.toList.drop pl)=none):=by rw [Hid,descOf,ha]
   rw [ha] at HAR
   have HA:Hid (Calls Tryz.prog 126 #[.pointer (some ⟨b,0,none⟩)] (W.alloc (.cells #[.slice none 0 0,.bool false,.int .i64 0,.string ⟨#[]⟩] 124)) fun e w'=>e=.returned (.tuple #[.slice none 0 0,.bool false])∧∃ q,Hid (Dd W b s q (.slice none 0 0) [] w')) :=
    HAR.mono fun e w' ⟨⟨he,q,hq,hc⟩,hg⟩=>⟨he,q,H0.step hc hg hq⟩
   clear HAR HT HS ha hc H0 hsz
   go_enter Tryz.func111,Tryz.ntmps111
   go_wp2_with (go_at_call 126;refine (HA.out).mono ?_;rintro e w1 ⟨rfl,q,R1⟩;obtain ⟨c0,c1,c2,c3,f0,f1,f2,f3,hz⟩:=R1.out.cells)
   refine bodyPost_ret (v:=.tuple #[.agg #[.slice none 0 0,.bool false,.int .i64 0,.string ⟨#[]⟩],.bool false]) (by simp [results,Tryz.results111,go_sem, *]) rfl ⟨Zbp HP.out R1.out.le (R1.out.done _ _ _ _).1,(R1.out.done _ _ _ _).2.2⟩
 | some p =>
   obtain ⟨ts,r⟩:=p
   obtain ⟨hrd,hrl⟩:=Zjb ha
   rw [hsz] at hrd hrl
   rw [ha] at HAR
   have HA:Hid (Calls Tryz.prog 126 #[.pointer (some ⟨b,0,none⟩)] (W.alloc (.cells #[.slice none 0 0,.bool false,.int .i64 0,.string ⟨#[]⟩] 124)) fun e w'=>∃ v,e=.returned (.tuple #[v,.bool true])∧Hid (Dd W b s (s.size - r.length) v ts w')) :=
    HAR.mono fun e w' ⟨⟨v,he,ho,hc⟩,hg⟩=>⟨v,he,by
     have h1:=H0.step hc hg (by omega)
     refine ⟨h1.cur,?_,h1.r,h1.gr,h1.hb,h1.le⟩
     have:=ho
     rw [show (W.alloc (.cells Qh 124)).heap.size=W.heap.size+1 by simp] at this
     exact this⟩
   clear HAR
   obtain ⟨q,hq⟩:∃ q,s.size - r.length=q:=⟨_,rfl⟩
   rw [hq] at HA hrd
   have hqs:q≤s.size:=by omega
   have hnx:nxt s q 86=(r.head? == some 86):=by rw [nxt,← hrd]
   cases h86:nxt s q 86 with
   | true =>
     have hr86:r.head?=some 86:=by rw [h86] at hnx;simpa using hnx.symm
     have hlt:=Xy h86
     have HP:Hid (descOf (s.data.toList.drop pl)=some ((ts,none),r.drop 1)):=by rw [Hid,descOf,ha];simp [hr86]
     have HQ:Hid (q+1=s.size - (r.drop 1).length):=by rw [Hid,List.length_drop];omega
     clear HT ha hc H0 hsz hrd hrl hq hnx hr86
     go_enter Tryz.func111,Tryz.ntmps111
     go_wp2_with (first
      | (go_at_call 126;refine (HA.out).mono ?_;rintro e w1 ⟨v,rfl,R1⟩;obtain ⟨ao,cap,rfl⟩:=Zd R1.out.own)
      | (go_at_call 127;refine (HS.out _ _ _ _ _ R1).mono ?_;rintro e w2 ⟨rfl,R2⟩;rw [h86,if_pos rfl] at R2;obtain ⟨c0,c1,c2,c3,f0,f1,f2,f3,hz⟩:=R2.out.cells))
     refine bodyPost_ret (v:=.tuple #[.agg #[.slice ao ts.length cap,.bool true,.int .i64 0,.string ⟨#[]⟩],.bool true]) (by simp [results,Tryz.results111,go_sem, *]) rfl ⟨Zbo (x:=none) HP.out HQ.out (R2.out.done _ _ _ _).2.1 (R2.out.done _ _ _ _).1,(R2.out.done _ _ _ _).2.2⟩
   | false =>
     have hr86:r.head?≠some 86:=by rw [h86] at hnx;simpa using hnx.symm
     cases hr:Zx r with
     | none =>
       have HP:Hid (descOf (s.data.toList.drop pl)=none):=by rw [Hid,descOf,ha];simp [hr86,hr]
       have HT':Hid (∀ v w,Hid (Dd W b s q v ts w)→Calls Tryz.prog 128 #[.pointer (some ⟨b,0,none⟩)] w fun e w'=>e=.returned (.tuple #[.agg #[.int .i64 0,.string ⟨#[]⟩],.bool false])∧∃ q',Hid (Dd W b s q' v ts w')):=fun v w h =>
        (HT q v ts w h).mono fun e w' ⟨hp,hgr⟩=>by
         unfold Yc at hp
         rw [← hrd,hr] at hp
         obtain ⟨he,q',hq',hc'⟩:=hp
         exact ⟨he,q',h.out.step hc' hgr hq'⟩
       clear HT ha hc H0 hsz hrd hrl hq hnx hr86 hr
       go_enter Tryz.func111,Tryz.ntmps111
       go_wp2_with (first
        | (go_at_call 126;refine (HA.out).mono ?_;rintro e w1 ⟨v,rfl,R1⟩;obtain ⟨ao,cap,rfl⟩:=Zd R1.out.own)
        | (go_at_call 127;refine (HS.out _ _ _ _ _ R1).mono ?_;rintro e w2 ⟨rfl,R2⟩;rw [h86,if_neg Bool.false_ne_true] at R2)
        | (go_at_call 128;refine (HT'.out _ _ R2).mono ?_;rintro e w3 ⟨rfl,q',R3⟩;obtain ⟨c0,c1,c2,c3,f0,f1,f2,f3,hz⟩:=R3.out.cells))
       have R5:=R3.out.done (.slice none 0 0) (.bool false) (.int .i64 0) (.string ⟨#[]⟩)
       have hal:Below (set4 w3 W.heap.size (.slice none 0 0) (.bool false) (.int .i64 0) (.string ⟨#[]⟩)).heap.size (set4 w3 W.heap.size (.slice none 0 0) (.bool false) (.int .i64 0) (.string ⟨#[]⟩)) ((set4 w3 W.heap.size (.slice none 0 0) (.bool false) (.int .i64 0) (.string ⟨#[]⟩)).alloc (.cells #[.int .i64 0,.string ⟨#[]⟩] 122)):=(Below.refl _ _).alloc (Nat.le_refl _) _
       refine bodyPost_ret (v:=.tuple #[.agg #[.slice none 0 0,.bool false,.int .i64 0,.string ⟨#[]⟩],.bool false]) (by simp [results,Tryz.results111,go_sem, *]) rfl ⟨Zbp HP.out R3.out.le (R5.1.keep hal),grownBy_trans R5.2.2 (grownBy_below hal (r:=some b)) (fun _ e=>.inl e)⟩
     | some p =>
       obtain ⟨⟨k,nm⟩,y⟩:=p
       have hrd2:=hrd
       obtain ⟨hyd,hyq,hyl⟩:=Qn (l:=s.data.toList) (q:=q) (by rw [← hrd2];exact hr)
       rw [hsz] at hyd hyq hyl
       have HP:Hid (descOf (s.data.toList.drop pl)=some ((ts,some (k,nm)),y)):=by rw [Hid,descOf,ha];simp [hr86,hr]
       have HT':Hid (∀ v w,Hid (Dd W b s q v ts w)→Calls Tryz.prog 128 #[.pointer (some ⟨b,0,none⟩)] w fun e w'=>e=.returned (.tuple #[.agg #[.int .i64 k,.string ⟨nm.toArray⟩],.bool true])∧Hid (Dd W b s (s.size - y.length) v ts w')):=fun v w h =>
        (HT q v ts w h).mono fun e w' ⟨hp,hgr⟩=>by
         unfold Yc at hp
         rw [← hrd,hr] at hp
         exact ⟨hp.1,h.out.step hp.2 hgr (by omega)⟩
       clear HT ha hc H0 hsz hrd hrl hq hnx hr86 hr hrd2 hyd hyq hyl
       go_enter Tryz.func111,Tryz.ntmps111
       go_wp2_with (first
        | (go_at_call 126;refine (HA.out).mono ?_;rintro e w1 ⟨v,rfl,R1⟩;obtain ⟨ao,cap,rfl⟩:=Zd R1.out.own)
        | (go_at_call 127;refine (HS.out _ _ _ _ _ R1).mono ?_;rintro e w2 ⟨rfl,R2⟩;rw [h86,if_neg Bool.false_ne_true] at R2)
        | (go_at_call 128;refine (HT'.out _ _ R2).mono ?_;rintro e w3 ⟨rfl,R3⟩;obtain ⟨c0,c1,c2,c3,f0,f1,f2,f3,hz⟩:=R3.out.cells))
       have R5:=R3.out.done (.slice ao ts.length cap) (.bool false) (.int .i64 k) (.string ⟨nm.toArray⟩)
       have hal:Below (set4 w3 W.heap.size (.slice ao ts.length cap) (.bool false) (.int .i64 k) (.string ⟨nm.toArray⟩)).heap.size (set4 w3 W.heap.size (.slice ao ts.length cap) (.bool false) (.int .i64 k) (.string ⟨nm.toArray⟩)) ((set4 w3 W.heap.size (.slice ao ts.length cap) (.bool false) (.int .i64 k) (.string ⟨nm.toArray⟩)).alloc (.cells #[.int .i64 k,.string ⟨nm.toArray⟩] 122)):=(Below.refl _ _).alloc (Nat.le_refl _) _
       refine bodyPost_ret (v:=.tuple #[.agg #[.slice ao ts.length cap,.bool false,.int .i64 k,.string ⟨nm.toArray⟩],.bool true]) (by simp [results,Tryz.results111,go_sem, *]) rfl ⟨Zbo (x:=some (k,nm)) HP.out rfl (own_below R5.2.1 hal (Nat.le_refl _)) (R5.1.keep hal),grownBy_trans R5.2.2 (grownBy_below hal (r:=some b)) (fun _ e=>.inl e)⟩
def parE (l:List UInt8):Int:=if 2000<l.length then 5 else match Zx l with
 | some (t,[])=>if 255<t.1 then 5 else 0
 | _=>4
def parT (l:List UInt8):Nat×List UInt8:=if parE l=0 then (match Zx l with
 | some (t,_)=>t
 | none=>(0,[])) else (0,[])
theorem Zbd (s:ByteArray) (hs:s.size≤maxLen) (w:World) :
 Calls Tryz.prog 123 #[.string s] w fun e w'=>e=.returned (.tuple #[.agg #[.int .i64 (parT s.data.toList).1,.string ⟨(parT s.data.toList).2.toArray⟩],.int .i64 (parE s.data.toList)])∧Bw w w':=by
 have hlen:s.data.toList.length=s.size:=by simp
 unfold maxLen at hs
 by_cases hbig:2000<s.size
 ·have HE:Hid (parE s.data.toList=5):=by rw [Hid,parE,if_pos (by rw [hlen];exact hbig)]
  have HT:Hid (parT s.data.toList=(0,[])):=by rw [Hid,parT,HE.out];rfl
  clear hlen
  generalize parE s.data.toList=x at *
  generalize parT s.data.toList=t at *
  go_enter Tryz.func123,Tryz.ntmps123
  go_wp2
  refine bodyPost_ret (v:=.tuple #[.agg #[.int .i64 0,.string ⟨#[]⟩],.int .i64 5]) (by simp [results,Tryz.results123,go_sem, *]) rfl ⟨?_,?_⟩
  ·rw [HT.out,HE.out];rfl
  ·exact (Below.refl _ _).alloc (Nat.le_refl _) _
 ·have HR:=Qo s (by omega) 0 (Nat.zero_le _)
  have hE:parE s.data.toList=match Zx s.data.toList with
   | some (t,[])=>if 255<t.1 then 5 else 0
   | _=>4:=by rw [parE,if_neg (by rw [hlen];exact hbig)]
  unfold Yi at HR
  rw [List.drop_zero] at HR
  cases hr:Zx s.data.toList with
  | none =>
    rw [hr] at hE HR
    have HE:Hid (parE s.data.toList=4):=hE
    have HT:Hid (parT s.data.toList=(0,[])):=by rw [Hid,parT,HE.out];rfl
    have HQ:Hid (∀ w,Calls Tryz.prog 101 #[.string s,.int .i64 0] w fun e w'=>(∃ x y,e=.returned (.tuple #[.agg #[.int .i64 x,.string y],.int .i64 (-1)]))∧Bw w w'):=HR
    clear hE HR hr hlen
    generalize parE s.data.toList=x at *
    generalize parT s.data.toList=t at *
    have hne:((-1:Int) != (s.size:Int))=true:=by rw [bne_iff_ne];omega
    go_enter Tryz.func123,Tryz.ntmps123
    go_wp2_with (go_at_call 101;refine ((HQ.out) _).mono ?_;rintro e w1 ⟨⟨x1,y1,rfl⟩,hb1⟩;have hr0:=hb1.cell (p:=⟨w.heap.size,0,none⟩) (by simp);have hr1:=hb1.cell (p:=⟨w.heap.size,1,none⟩) (by simp);have hf0:=hb1.frozen (p:=⟨w.heap.size,0,none⟩) (by simp);have hf1:=hb1.frozen (p:=⟨w.heap.size,1,none⟩) (by simp);have hz:w.heap.size<w1.heap.size:=by have:=hb1.size;simp at this;omega)
    refine bodyPost_ret (v:=.tuple #[.agg #[.int .i64 0,.string ⟨#[]⟩],.int .i64 4]) (by simp [results,Tryz.results123,go_sem, *]) rfl ⟨?_,?_⟩
    ·rw [HT.out,HE.out];rfl
    ·have hb9:Bw w w1:=sqT hb1
     exact (((hb9.setCell (Nat.le_refl _) _).setCell (Nat.le_refl _) _).alloc (by simp;omega) _)
  | some p =>
    obtain ⟨⟨k,nm⟩,r⟩:=p
    rw [hr] at hE HR
    have HQ:Hid (∀ w,Calls Tryz.prog 101 #[.string s,.int .i64 0] w fun e w'=>e=.returned (.tuple #[.agg #[.int .i64 k,.string ⟨nm.toArray⟩],.int .i64 ((s.size:Int) - r.length)])∧Bw w w'):=HR
    have hrl:=Y8 hr
    rw [hlen] at hrl
    cases r with
    | cons c q =>
      have HE:Hid (parE s.data.toList=4):=hE
      have HT:Hid (parT s.data.toList=(0,[])):=by rw [Hid,parT,HE.out];rfl
      simp only [List.length_cons] at hrl HQ
      clear hE HR hr hlen
      generalize parE s.data.toList=x at *
      generalize parT s.data.toList=t at *
      obtain ⟨m,hm⟩:∃ m:Nat,(s.size:Int) - ((q.length+1:Nat):Int)=m:=⟨s.size - (q.length+1),by omega⟩
      rw [hm] at HQ
      have hne:((m:Int) != (s.size:Int))=true:=by rw [bne_iff_ne];omega
      clear hm hrl
      go_enter Tryz.func123,Tryz.ntmps123
      go_wp2_with (go_at_call 101;refine ((HQ.out) _).mono ?_;rintro e w1 ⟨rfl,hb1⟩;have hr0:=hb1.cell (p:=⟨w.heap.size,0,none⟩) (by simp);have hr1:=hb1.cell (p:=⟨w.heap.size,1,none⟩) (by simp);have hf0:=hb1.frozen (p:=⟨w.heap.size,0,none⟩) (by simp);have hf1:=hb1.frozen (p:=⟨w.heap.size,1,none⟩) (by simp);have hz:w.heap.size<w1.heap.size:=by have:=hb1.size;simp at this;omega)
      refine bodyPost_ret (v:=.tuple #[.agg #[.int .i64 0,.string ⟨#[]⟩],.int .i64 4]) (by simp [results,Tryz.results123,go_sem, *]) rfl ⟨?_,?_⟩
      ·rw [HT.out,HE.out];rfl
      ·have hb9:Bw w w1:=sqT hb1
       exact (((hb9.setCell (Nat.le_refl _) _).setCell (Nat.le_refl _) _).alloc (by simp;omega) _)
    | nil =>
      simp only [List.length_nil] at HQ
      have h0:(s.size:Int) - ((0:Nat):Int)=(s.size:Int):=by omega
      rw [h0] at HQ
      by_cases hk:255<k
      ·have HE:Hid (parE s.data.toList=5):=by rw [Hid,hE];simp [hk]
       have HT:Hid (parT s.data.toList=(0,[])):=by rw [Hid,parT,HE.out];rfl
       clear hE HR hr hlen hrl h0
       generalize parE s.data.toList=x at *
       generalize parT s.data.toList=t at *
       have hki:(255:Int)<(k:Int):=by omega
       go_enter Tryz.func123,Tryz.ntmps123
       go_wp2_with (go_at_call 101;refine ((HQ.out) _).mono ?_;rintro e w1 ⟨rfl,hb1⟩;have hr0:=hb1.cell (p:=⟨w.heap.size,0,none⟩) (by simp);have hr1:=hb1.cell (p:=⟨w.heap.size,1,none⟩) (by simp);have hf0:=hb1.frozen (p:=⟨w.heap.size,0,none⟩) (by simp);have hf1:=hb1.frozen (p:=⟨w.heap.size,1,none⟩) (by simp);have hz:w.heap.size<w1.heap.size:=by have:=hb1.size;simp at this;omega)
       refine bodyPost_ret (v:=.tuple #[.agg #[.int .i64 0,.string ⟨#[]⟩],.int .i64 5]) (by simp [results,Tryz.results123,go_sem, *]) rfl ⟨?_,?_⟩
       ·rw [HT.out,HE.out];rfl
       ·have hb9:Bw w w1:=sqT hb1
        exact (((hb9.setCell (Nat.le_refl _) _).setCell (Nat.le_refl _) _).alloc (by simp;omega) _)
      ·have HE:Hid (parE s.data.toList=0):=by rw [Hid,hE];simp [hk]
       have HT:Hid (parT s.data.toList=(k,nm)):=by rw [Hid,parT,HE.out,hr];rfl
       clear hE HR hr hlen hrl h0
       generalize parE s.data.toList=x at *
       generalize parT s.data.toList=t at *
       have hki:¬ (255:Int)<(k:Int):=by omega
       go_enter Tryz.func123,Tryz.ntmps123
       go_wp2_with (go_at_call 101;refine ((HQ.out) _).mono ?_;rintro e w1 ⟨rfl,hb1⟩;have hr0:=hb1.cell (p:=⟨w.heap.size,0,none⟩) (by simp);have hr1:=hb1.cell (p:=⟨w.heap.size,1,none⟩) (by simp);have hf0:=hb1.frozen (p:=⟨w.heap.size,0,none⟩) (by simp);have hf1:=hb1.frozen (p:=⟨w.heap.size,1,none⟩) (by simp);have hz:w.heap.size<w1.heap.size:=by have:=hb1.size;simp at this;omega)
       refine bodyPost_ret (v:=.tuple #[.agg #[.int .i64 k,.string ⟨nm.toArray⟩],.int .i64 0]) (by simp [results,Tryz.results123,go_sem, *]) rfl ⟨?_,?_⟩
       ·rw [HT.out,HE.out]
       ·have hb9:Bw w w1:=sqT hb1
        exact (((hb9.setCell (Nat.le_refl _) _).setCell (Nat.le_refl _) _).alloc (by simp;omega) _)
def prfE (l:List UInt8):Int:=if 2000<l.length then 5 else if l.head?=some 91 then parE l else if Zk l then 0 else 4
def prfT (l:List UInt8):Nat×List UInt8:=if 2000<l.length then (0,[]) else if l.head?=some 91 then parT l else if Zk l then (0,l) else (0,[])
theorem Zez (s:ByteArray) (h:0<s.size):s.data.toList.head?=some s[0]:=by
 have:=Zo s 0 h
 rw [List.drop_zero] at this
 rw [this];rfl
theorem Xd (s:ByteArray) (hs:s.size≤maxLen) (w:World) :
 Calls Tryz.prog 122 #[.string s] w fun e w'=>e=.returned (.tuple #[.agg #[.int .i64 (prfT s.data.toList).1,.string ⟨(prfT s.data.toList).2.toArray⟩],.int .i64 (prfE s.data.toList)])∧Bw w w':=by
 have hlen:s.data.toList.length=s.size:=by simp
 have HP:Hid (∀ w,_):=Zbd s hs
 have HV:Hid (∀ w,_):=Yt s hs
 unfold maxLen at hs
 by_cases hbig:2000<s.size
 ·have HE:Hid (prfE s.data.toList=5):=by rw [Hid,prfE,if_pos (by rw [hlen];exact hbig)]
  have HT:Hid (prfT s.data.toList=(0,[])):=by rw [Hid,prfT,if_pos (by rw [hlen];exact hbig)]
  clear hlen HP HV
  generalize prfE s.data.toList=x at *
  generalize prfT s.data.toList=t at *
  go_enter Tryz.func122,Tryz.ntmps122
  go_wp2
  refine bodyPost_ret (v:=.tuple #[.agg #[.int .i64 0,.string ⟨#[]⟩],.int .i64 5]) (by simp [results,Tryz.results122,go_sem, *]) rfl ⟨?_,?_⟩
  ·rw [HT.out,HE.out];rfl
  ·exact (Below.refl _ _).alloc (Nat.le_refl _) _
 ·have hng:¬ 2000<s.data.toList.length:=by rw [hlen];exact hbig
  by_cases hh:s.data.toList.head?=some 91
  ·have hpos:0<s.size:=by
    cases e:s.data.toList with
    | nil=>rw [e] at hh;simp at hh
    | cons c q=>rw [← hlen,e];simp
   have h91:s[0]=91:=by rw [Zez s hpos] at hh;exact Option.some.inj hh
   have q91:(((s[0]).toNat:Int) == 91)=true:=by rw [h91];rfl
   have HE:Hid (prfE s.data.toList=parE s.data.toList):=by rw [Hid,prfE,if_neg hng,if_pos hh]
   have HT:Hid (prfT s.data.toList=parT s.data.toList):=by rw [Hid,prfT,if_neg hng,if_pos hh]
   clear hlen HV hh h91 hng
   generalize prfE s.data.toList=x at *
   generalize prfT s.data.toList=t at *
   generalize parE s.data.toList=pe at *
   generalize parT s.data.toList=pt at *
   go_enter Tryz.func122,Tryz.ntmps122
   go_wp2_with (go_at_call 123;refine ((HP.out) _).mono ?_;rintro e w1 ⟨rfl,hb1⟩;have hr0:=hb1.cell (p:=⟨w.heap.size,0,none⟩) (by simp);have hr1:=hb1.cell (p:=⟨w.heap.size,1,none⟩) (by simp);have hf0:=hb1.frozen (p:=⟨w.heap.size,0,none⟩) (by simp);have hf1:=hb1.frozen (p:=⟨w.heap.size,1,none⟩) (by simp))
   refine bodyPost_ret (v:=.tuple #[.agg #[.int .i64 pt.1,.string ⟨pt.2.toArray⟩],.int .i64 pe]) (by simp [results,Tryz.results122,go_sem, *]) rfl ⟨?_,?_⟩
   ·rw [HT.out,HE.out]
   ·have hb9:Bw w w1:=sqT hb1
    exact (hb9.setCell (Nat.le_refl _) _).setCell (Nat.le_refl _) _
  ·cases hv:Zk s.data.toList with
   | true =>
     have HE:Hid (prfE s.data.toList=0):=by rw [Hid,prfE,if_neg hng,if_neg hh,hv];rfl
     have HT:Hid (prfT s.data.toList=(0,s.data.toList)):=by rw [Hid,prfT,if_neg hng,if_neg hh,hv];rfl
     have hpos:0<s.size:=by have:=valid_ne hv;omega
     have h91:s[0]≠91:=fun e=>hh (by rw [Zez s hpos,e])
     have q91:(((s[0]).toNat:Int) == 91)=false:=by have:=Yh s 0 hpos 91;simp only [h91,decide_false] at this;exact this
     rw [hv] at HV
     clear hlen HP hh h91 hng hv
     generalize prfE s.data.toList=x at *
     generalize prfT s.data.toList=t at *
     go_enter Tryz.func122,Tryz.ntmps122
     go_wp2_with (go_at_call 57;refine ((HV.out) _).mono ?_;rintro e w1 ⟨rfl,hb1⟩;have hr0:=hb1.cell (p:=⟨w.heap.size,0,none⟩) (by simp);have hr1:=hb1.cell (p:=⟨w.heap.size,1,none⟩) (by simp);have hf0:=hb1.frozen (p:=⟨w.heap.size,0,none⟩) (by simp);have hf1:=hb1.frozen (p:=⟨w.heap.size,1,none⟩) (by simp))
     refine bodyPost_ret (v:=.tuple #[.agg #[.int .i64 0,.string s],.int .i64 0]) (by simp [results,Tryz.results122,go_sem, *]) rfl ⟨?_,?_⟩
     ·rw [HT.out,HE.out];rfl
     ·have hb9:Bw w w1:=sqT hb1
      exact (hb9.setCell (Nat.le_refl _) _).setCell (Nat.le_refl _) _
   | false =>
     have HE:Hid (prfE s.data.toList=4):=by rw [Hid,prfE,if_neg hng,if_neg hh,hv];rfl
     have HT:Hid (prfT s.data.toList=(0,[])):=by rw [Hid,prfT,if_neg hng,if_neg hh,hv];rfl
     rw [hv] at HV
     by_cases hpos:0<s.size
     ·have h91:s[0]≠91:=fun e=>hh (by rw [Zez s hpos,e])
      have q91:(((s[0]).toNat:Int) == 91)=false:=by have:=Yh s 0 hpos 91;simp only [h91,decide_false] at this;exact this
      clear hlen HP hh h91 hng hv
      generalize prfE s.data.toList=x at *
      generalize prfT s.data.toList=t at *
      go_enter Tryz.func122,Tryz.ntmps122
      go_wp2_with (go_at_call 57;refine ((HV.out) _).mono ?_;rintro e w1 ⟨rfl,hb1⟩;have hr0:=hb1.cell (p:=⟨w.heap.size,0,none⟩) (by simp);have hr1:=hb1.cell (p:=⟨w.heap.size,1,none⟩) (by simp);have hf0:=hb1.frozen (p:=⟨w.heap.size,0,none⟩) (by simp);have hf1:=hb1.frozen (p:=⟨w.heap.size,1,none⟩) (by simp))
      refine bodyPost_ret (v:=.tuple #[.agg #[.int .i64 0,.string ⟨#[]⟩],.int .i64 4]) (by simp [results,Tryz.results122,go_sem, *]) rfl ⟨?_,?_⟩
      ·rw [HT.out,HE.out];rfl
      ·have hb9:Bw w w1:=sqT hb1
       exact (hb9.setCell (Nat.le_refl _) _).setCell (Nat.le_refl _) _
     ·clear hlen HP hh hng hv
      generalize prfE s.data.toList=x at *
      generalize prfT s.data.toList=t at *
      go_enter Tryz.func122,Tryz.ntmps122
      go_wp2_with (go_at_call 57;refine ((HV.out) _).mono ?_;rintro e w1 ⟨rfl,hb1⟩;have hr0:=hb1.cell (p:=⟨w.heap.size,0,none⟩) (by simp);have hr1:=hb1.cell (p:=⟨w.heap.size,1,none⟩) (by simp);have hf0:=hb1.frozen (p:=⟨w.heap.size,0,none⟩) (by simp);have hf1:=hb1.frozen (p:=⟨w.heap.size,1,none⟩) (by simp))
      refine bodyPost_ret (v:=.tuple #[.agg #[.int .i64 0,.string ⟨#[]⟩],.int .i64 4]) (by simp [results,Tryz.results122,go_sem, *]) rfl ⟨?_,?_⟩
      ·rw [HT.out,HE.out];rfl
      ·have hb9:Bw w w1:=sqT hb1
       exact (hb9.setCell (Nat.le_refl _) _).setCell (Nat.le_refl _) _
structure Pst (w:World) (s:ByteArray) (q:Nat) (w2:World):Prop where
 r:w2.heap[w.heap.size]?=some (.cells #[.int .i64 0,.string ⟨#[]⟩] 122 (0,0))
 cur:Cur w2 (w.heap.size+1) s q
 bel:Bw w w2
theorem Pst.keep {w w2 w3:World} {s:ByteArray} {q:Nat} (h:Pst w s q w2) (hb:Bw w2 w3):Pst w s q w3 :=
 ⟨by rw [hb.block _ (Array.getElem?_eq_some_iff.1 h.r).1];exact h.r,h.cur.keep hb,Below.step h.bel hb⟩
theorem Pst.cells {w wr:World} {s:ByteArray} {q:Nat} (h:Pst w s q wr) :
 wr.cell? ⟨w.heap.size,0,none⟩=some (.int .i64 0)∧wr.cell? ⟨w.heap.size,1,none⟩=some (.string ⟨#[]⟩)∧wr.frozen? ⟨w.heap.size,0,none⟩=false∧wr.frozen? ⟨w.heap.size,1,none⟩=false∧w.heap.size+1<wr.heap.size∧w.heap.size<wr.heap.size:=by
 refine ⟨?_,?_,?_,?_,h.cur.cells.2.2.2,Nat.lt_of_succ_lt h.cur.cells.2.2.2⟩
 ·rw [cell_of_row _ w.heap.size 0 _ 122 (0,0) h.r];rfl
 ·rw [cell_of_row _ w.heap.size 1 _ 122 (0,0) h.r];rfl
 all_goals simp [World.frozen?,h.r]
theorem Pst.done {w w2:World} {s:ByteArray} {q:Nat} (h:Pst w s q w2) (u v:Value):Bw w ((w2.setCell ⟨w.heap.size,0,none⟩ u).setCell ⟨w.heap.size,1,none⟩ v) :=
 (h.bel.setCell (Nat.le_refl _) _).setCell (Nat.le_refl _) _
theorem Pst.first (w:World) (s:ByteArray):Pst w s 0 ((w.alloc (.cells #[.int .i64 0,.string ⟨#[]⟩] 122)).alloc (.cells #[.string s,.int .i64 0] 156)):=by
 refine ⟨?_,?_,((Below.refl _ _).alloc (Nat.le_refl _) _).alloc (by simp) _⟩
 ·rw [Below.heap_alloc _ _ _ (by simp)];exact heap_alloc_new w _
 ·have:=heap_alloc_new (w.alloc (.cells #[.int .i64 0,.string ⟨#[]⟩] 122)) (.cells #[.string s,.int .i64 0] 156)
  unfold Cur
  simpa using this
theorem Pst.grown {w w2 w3:World} {s:ByteArray} {q q':Nat} (h:Pst w s q w2) (hg:w2.grownBy w3 (some (w.heap.size+1))) (hc:Cur w3 (w.heap.size+1) s q'):Pst w s q' w3 :=
 ⟨by rw [hg.block _ (Array.getElem?_eq_some_iff.1 h.r).1 (by simp)];exact h.r,hc,h.bel.grown hg h.bel.size (fun k e=>by simp at e;omega)⟩
theorem Zdf (s:ByteArray) (hs:s.size≤maxLen) (w:World) :
 Calls Tryz.prog 152 #[.string s] w fun e w'=>e=.returned (.tuple #[.agg #[.int .i64 (parT s.data.toList).1,.string ⟨(parT s.data.toList).2.toArray⟩],.int .i64 (parE s.data.toList)])∧Bw w w':=by
 have hlen:s.data.toList.length=s.size:=by simp
 unfold maxLen at hs
 by_cases hbig:2000<s.size
 ·have HE:Hid (parE s.data.toList=5):=by rw [Hid,parE,if_pos (by rw [hlen];exact hbig)]
  have HT:Hid (parT s.data.toList=(0,[])):=by rw [Hid,parT,HE.out];rfl
  clear hlen
  generalize parE s.data.toList=x at *
  generalize parT s.data.toList=t at *
  go_enter Tryz.func152,Tryz.ntmps152
  go_wp2
  refine bodyPost_ret (v:=.tuple #[.agg #[.int .i64 0,.string ⟨#[]⟩],.int .i64 5]) (by simp [results,Tryz.results152,go_sem, *]) rfl ⟨?_,?_⟩
  ·rw [HT.out,HE.out];rfl
  ·exact (Below.refl _ _).alloc (Nat.le_refl _) _
 ·have HR:=Xm (w.heap.size+1) s 0 (Nat.zero_le _) (by omega) _ (Pst.first w s).cur
  have hE:parE s.data.toList=match Zx s.data.toList with
   | some (t,[])=>if 255<t.1 then 5 else 0
   | _=>4:=by rw [parE,if_neg (by rw [hlen];exact hbig)];try rfl
  have HN:Hid (∀ w,_):=Qt s
  have HA:Hid (∀ (q:Nat) (w2 w3:World),Hid (Pst w s q w2)→Bw w2 w3→Calls Tryz.prog 112 #[.pointer (some ⟨w.heap.size+1,0,none⟩)] w3 fun e w'=>e=.returned (.bool (decide (q=s.size)))∧Bw w3 w') :=
   fun q w2 w3 h hb=>Zed (w.heap.size+1) s q w3 (h.out.keep hb).cur
  unfold Yc at HR
  rw [List.drop_zero] at HR
  cases hr:Zx s.data.toList with
  | none =>
    rw [hr] at hE HR
    have HE:Hid (parE s.data.toList=4):=hE
    have HT:Hid (parT s.data.toList=(0,[])):=by rw [Hid,parT,HE.out];rfl
    have HQ:Hid (Calls Tryz.prog 128 #[.pointer (some ⟨w.heap.size+1,0,none⟩)] ((w.alloc (.cells #[.int .i64 0,.string ⟨#[]⟩] 122)).alloc (.cells #[.string s,.int .i64 0] 156)) fun e w'=>e=.returned (.tuple #[.agg #[.int .i64 0,.string ⟨#[]⟩],.bool false])∧∃ q,Hid (Pst w s q w')) :=
     HR.mono fun e w' ⟨⟨he,q,_,hc⟩,hg⟩=>⟨he,q,(Pst.first w s).grown hg hc⟩
    clear hE HR hr hlen
    generalize parE s.data.toList=x at *
    generalize parT s.data.toList=t at *
    go_enter Tryz.func152,Tryz.ntmps152
    go_wp2_with (first
     | (go_at_call 110;refine ((HN.out) _).mono ?_;rintro e w1 ⟨rfl,rfl⟩)
     | (go_at_call 128;refine (HQ.out).mono ?_;rintro e w2 ⟨rfl,q,hP⟩;obtain ⟨c0,c1,f0,f1,hz,hz'⟩:=hP.out.cells))
    refine bodyPost_ret (v:=.tuple #[.agg #[.int .i64 0,.string ⟨#[]⟩],.int .i64 4]) (by simp [results,Tryz.results152,go_sem, *]) rfl ⟨?_,?_⟩
    ·rw [HT.out,HE.out];rfl
    ·exact (hP.out.done _ _).alloc (by simp;omega) _
  | some p =>
    obtain ⟨⟨k,nm⟩,r⟩:=p
    rw [hr] at hE HR
    have hrl:=Y8 hr
    rw [hlen] at hrl
    have HQ:Hid (Calls Tryz.prog 128 #[.pointer (some ⟨w.heap.size+1,0,none⟩)] ((w.alloc (.cells #[.int .i64 0,.string ⟨#[]⟩] 122)).alloc (.cells #[.string s,.int .i64 0] 156)) fun e w'=>e=.returned (.tuple #[.agg #[.int .i64 k,.string ⟨nm.toArray⟩],.bool true])∧Hid (Pst w s (s.size - r.length) w')) :=
     HR.mono fun e w' ⟨⟨he,hc⟩,hg⟩=>⟨he,(Pst.first w s).grown hg hc⟩
    cases r with
    | cons c q =>
      have HE:Hid (parE s.data.toList=4):=hE
      have HT:Hid (parT s.data.toList=(0,[])):=by rw [Hid,parT,HE.out];rfl
      obtain ⟨m,hm⟩:∃ m:Nat,s.size - (c::q).length=m:=⟨_,rfl⟩
      rw [hm] at HQ
      have hne:decide (m=s.size)=false:=by simp at hm hrl ⊢;omega
      have HA':Hid (∀ (w2 w3:World),Hid (Pst w s m w2)→Bw w2 w3→Calls Tryz.prog 112 #[.pointer (some ⟨w.heap.size+1,0,none⟩)] w3 fun e w'=>e=.returned (.bool false)∧Bw w3 w'):=fun w2 w3 h hb=>by have:=HA.out m w2 w3 h hb;rw [hne] at this;exact this
      clear hE HR hr hlen hm hrl hne HA
      generalize parE s.data.toList=x at *
      generalize parT s.data.toList=t at *
      go_enter Tryz.func152,Tryz.ntmps152
      go_wp2_with (first
       | (go_at_call 110;refine ((HN.out) _).mono ?_;rintro e w1 ⟨rfl,rfl⟩)
       | (go_at_call 128;refine (HQ.out).mono ?_;rintro e w2 ⟨rfl,hP⟩;obtain ⟨c0,c1,f0,f1,hz,hz'⟩:=hP.out.cells)
       | (go_at_call 112;refine (HA'.out _ _ hP ((Below.refl _ _).alloc (Nat.le_refl _) _)).mono ?_;rintro e w3 ⟨rfl,hb3⟩;have hP3:Hid (Pst w s m w3):=(hP.out.keep ((Below.refl _ _).alloc (Nat.le_refl _) _)).keep hb3;have t0:w3.cell? ⟨w2.heap.size,0,none⟩=some (.int .i64 k):=(by rw [hb3.cell (p:=⟨w2.heap.size,0,none⟩) (by simp),cell_of_row _ w2.heap.size 0 _ 122 (0,0) (heap_alloc_new w2 _)];rfl);have t1:w3.cell? ⟨w2.heap.size,1,none⟩=some (.string ⟨nm.toArray⟩):=(by rw [hb3.cell (p:=⟨w2.heap.size,1,none⟩) (by simp),cell_of_row _ w2.heap.size 1 _ 122 (0,0) (heap_alloc_new w2 _)];rfl);have hs3:w2.heap.size<w3.heap.size:=sqS hb3;clear hb3;obtain ⟨d0,d1,g0,g1,hy,hy'⟩:=hP3.out.cells))
      refine bodyPost_ret (v:=.tuple #[.agg #[.int .i64 0,.string ⟨#[]⟩],.int .i64 4]) (by simp [results,Tryz.results152,go_sem, *]) rfl ⟨?_,?_⟩
      ·rw [HT.out,HE.out];rfl
      ·exact hP3.out.done _ _
    | nil =>
      have HA':Hid (∀ (w2 w3:World),Hid (Pst w s s.size w2)→Bw w2 w3→Calls Tryz.prog 112 #[.pointer (some ⟨w.heap.size+1,0,none⟩)] w3 fun e w'=>e=.returned (.bool true)∧Bw w3 w'):=fun w2 w3 h hb=>by have:=HA.out s.size w2 w3 h hb;simp only [decide_true] at this;exact this
      have HD:Hid (∀ w,_):=Jl k ⟨nm.toArray⟩
      have h0:s.size - ([]:List UInt8).length=s.size:=rfl
      rw [h0] at HQ
      by_cases hk:255<k
      ·have HE:Hid (parE s.data.toList=5):=by rw [Hid,hE];simp [hk]
       have HT:Hid (parT s.data.toList=(0,[])):=by rw [Hid,parT,HE.out];rfl
       have hdk:decide ((255:Int)<(k:Int))=true:=by simp;omega
       rw [hdk] at HD
       clear hE HR hr hlen hrl h0 HA hdk
       generalize parE s.data.toList=x at *
       generalize parT s.data.toList=t at *
       go_enter Tryz.func152,Tryz.ntmps152
       go_wp2_with (first
        | (go_at_call 110;refine ((HN.out) _).mono ?_;rintro e w1 ⟨rfl,rfl⟩)
        | (go_at_call 128;refine (HQ.out).mono ?_;rintro e w2 ⟨rfl,hP⟩;obtain ⟨c0,c1,f0,f1,hz,hz'⟩:=hP.out.cells)
        | (go_at_call 112;refine (HA'.out _ _ hP ((Below.refl _ _).alloc (Nat.le_refl _) _)).mono ?_;rintro e w3 ⟨rfl,hb3⟩;have hP3:Hid (Pst w s s.size w3):=(hP.out.keep ((Below.refl _ _).alloc (Nat.le_refl _) _)).keep hb3;have t0:w3.cell? ⟨w2.heap.size,0,none⟩=some (.int .i64 k):=(by rw [hb3.cell (p:=⟨w2.heap.size,0,none⟩) (by simp),cell_of_row _ w2.heap.size 0 _ 122 (0,0) (heap_alloc_new w2 _)];rfl);have t1:w3.cell? ⟨w2.heap.size,1,none⟩=some (.string ⟨nm.toArray⟩):=(by rw [hb3.cell (p:=⟨w2.heap.size,1,none⟩) (by simp),cell_of_row _ w2.heap.size 1 _ 122 (0,0) (heap_alloc_new w2 _)];rfl);have hs3:w2.heap.size<w3.heap.size:=sqS hb3;clear hb3;obtain ⟨d0,d1,g0,g1,hy,hy'⟩:=hP3.out.cells)
        | (go_at_call 113;refine ((HD.out) _).mono ?_;rintro e w4 ⟨rfl,hb4⟩;have hP4:Hid (Pst w s s.size w4):=hP3.out.keep hb4;have t2:w4.cell? ⟨w2.heap.size,0,none⟩=some (.int .i64 k):=(hb4.cell (p:=⟨w2.heap.size,0,none⟩) hs3).trans t0;have t3:w4.cell? ⟨w2.heap.size,1,none⟩=some (.string ⟨nm.toArray⟩):=(hb4.cell (p:=⟨w2.heap.size,1,none⟩) hs3).trans t1;clear hb4;obtain ⟨b0,b1,b2,b3,b4,b5⟩:=hP4.out.cells))
       refine bodyPost_ret (v:=.tuple #[.agg #[.int .i64 0,.string ⟨#[]⟩],.int .i64 5]) (by simp [results,Tryz.results152,go_sem, *]) rfl ⟨?_,?_⟩
       ·rw [HT.out,HE.out];rfl
       ·exact hP4.out.done _ _
      ·have HE:Hid (parE s.data.toList=0):=by rw [Hid,hE];simp [hk]
       have HT:Hid (parT s.data.toList=(k,nm)):=by rw [Hid,parT,HE.out,hr];rfl
       have hdk:decide ((255:Int)<(k:Int))=false:=by simp;omega
       rw [hdk] at HD
       clear hE HR hr hlen hrl h0 HA hdk
       generalize parE s.data.toList=x at *
       generalize parT s.data.toList=t at *
       go_enter Tryz.func152,Tryz.ntmps152
       go_wp2_with (first
        | (go_at_call 110;refine ((HN.out) _).mono ?_;rintro e w1 ⟨rfl,rfl⟩)
        | (go_at_call 128;refine (HQ.out).mono ?_;rintro e w2 ⟨rfl,hP⟩;obtain ⟨c0,c1,f0,f1,hz,hz'⟩:=hP.out.cells)
        | (go_at_call 112;refine (HA'.out _ _ hP ((Below.refl _ _).alloc (Nat.le_refl _) _)).mono ?_;rintro e w3 ⟨rfl,hb3⟩;have hP3:Hid (Pst w s s.size w3):=(hP.out.keep ((Below.refl _ _).alloc (Nat.le_refl _) _)).keep hb3;have t0:w3.cell? ⟨w2.heap.size,0,none⟩=some (.int .i64 k):=(by rw [hb3.cell (p:=⟨w2.heap.size,0,none⟩) (by simp),cell_of_row _ w2.heap.size 0 _ 122 (0,0) (heap_alloc_new w2 _)];rfl);have t1:w3.cell? ⟨w2.heap.size,1,none⟩=some (.string ⟨nm.toArray⟩):=(by rw [hb3.cell (p:=⟨w2.heap.size,1,none⟩) (by simp),cell_of_row _ w2.heap.size 1 _ 122 (0,0) (heap_alloc_new w2 _)];rfl);have hs3:w2.heap.size<w3.heap.size:=sqS hb3;clear hb3;obtain ⟨d0,d1,g0,g1,hy,hy'⟩:=hP3.out.cells)
        | (go_at_call 113;refine ((HD.out) _).mono ?_;rintro e w4 ⟨rfl,hb4⟩;have hP4:Hid (Pst w s s.size w4):=hP3.out.keep hb4;have t2:w4.cell? ⟨w2.heap.size,0,none⟩=some (.int .i64 k):=(hb4.cell (p:=⟨w2.heap.size,0,none⟩) hs3).trans t0;have t3:w4.cell? ⟨w2.heap.size,1,none⟩=some (.string ⟨nm.toArray⟩):=(hb4.cell (p:=⟨w2.heap.size,1,none⟩) hs3).trans t1;clear hb4;obtain ⟨b0,b1,b2,b3,b4,b5⟩:=hP4.out.cells))
       refine bodyPost_ret (v:=.tuple #[.agg #[.int .i64 k,.string ⟨nm.toArray⟩],.int .i64 0]) (by simp [results,Tryz.results152,go_sem, *]) rfl ⟨?_,?_⟩
       ·rw [HT.out,HE.out]
       ·exact hP4.out.done _ _
end Go.Proofs.YtkoogmegdfpopaaGreat
