import Derived.Test.YtfnmmpkhopochaaGreatCurD
import Derived.Test.YtfnmmpkhopochaaGreatCurA
set_option maxRecDepth 100000
namespace Go.Proofs.YtfnmmpkhopochaaGreat
open Go.RowKit
theorem suffix_drop {l a r:List UInt8} (h:l=a++r):r=l.drop (l.length - r.length):=by
  have e:l.length - r.length=a.length:=by rw [h,List.length_append];omega
  rw [e,h,List.drop_left]
theorem args_drop {l:List UInt8} {q:Nat} {ts:List (Nat×List UInt8)} {r:List UInt8} (h:argsOf (l.drop q)=some (ts,r)):r=l.drop (l.length - r.length)∧r.length≤l.length:=by
  unfold argsOf at h
  split at h
  · rename_i r0 e
    have hw:=(write_args h).1
    have e2:l=(l.take q++(40::writeArgs ts++[41]))++r:=by
      conv=>lhs;rw [← List.take_append_drop q l,e,hw]
      simp
    refine ⟨suffix_drop e2,?_⟩
    have:=congrArg List.length e2
    simp only [List.length_append] at this
    omega
  · simp at h
def descOf (l:List UInt8):Option ((List (Nat×List UInt8)×Option (Nat×List UInt8))×List UInt8):=match argsOf l with
  | none=>none
  | some (ts,q)=>if q.head?=some 86 then some ((ts,none),q.drop 1) else match readT q with
    | none=>none
    | some (t,r)=>some ((ts,some t),r)
def retT (x:Option (Nat×List UInt8)):Nat×List UInt8:=x.getD (0,[])
def voidB (x:Option (Nat×List UInt8)):Bool:=x.isNone
theorem own_base {w:World} {base base':Nat} {e:TypeId} {size:Nat} {v:Value} {n:Nat} {xs:List Value} (h:w.ownsRow base e size v n xs) (hb:base'≤base):w.ownsRow base' e size v n xs:=by
  refine ⟨h.1,?_⟩
  rcases h.2 with hn|⟨g,cap,cur,rfl,hb1,rest⟩
  · exact .inl hn
  · exact .inr ⟨g,cap,cur,rfl,Nat.le_trans hb hb1,rest⟩
theorem own_slice {w:World} {base:Nat} {e:TypeId} {size:Nat} {v:Value} {n:Nat} {xs:List Value} (h:w.ownsRow base e size v n xs):∃ ao cap,v=.slice ao n cap:=by
  rcases h.2 with ⟨rfl,rfl⟩|⟨g,cap,cur,rfl,_⟩
  · exact ⟨none,0,rfl⟩
  · exact ⟨_,cap,rfl⟩
def zeroD:Array Value:=#[.slice none 0 0,.bool false,.int .i64 0,.string ⟨#[]⟩]
structure Dd (W:World) (b:Nat) (s:ByteArray) (q:Nat) (v:Value) (ts:List (Nat×List UInt8)) (wr:World):Prop where
  cur:Cur wr b s q
  own:wr.ownsRow (W.heap.size+1) 40 2 v ts.length (flatT (ts.map natT))
  r:wr.heap[W.heap.size]?=some (.cells zeroD 177 (0,0))
  gr:W.grownBy wr (some b)
  hb:b<W.heap.size
  le:q≤s.size
theorem Dd.step {W wr w1:World} {b:Nat} {s:ByteArray} {q q':Nat} {v:Value} {ts:List (Nat×List UInt8)} (h:Dd W b s q v ts wr) (hc:Cur w1 b s q') (hg:wr.grownBy w1 (some b)) (hq:q'≤s.size):Dd W b s q' v ts w1 :=
  ⟨hc,h.own.kept hg (.inr (fun e=>by have:=(h.own.lt b e).1;have:=h.hb;omega)),by rw [hg.block _ (Array.getElem?_eq_some_iff.1 h.r).1 (by have:=h.hb;simp;omega)];exact h.r,grownBy_trans h.gr hg (fun _ e=>.inl e),h.hb,hq⟩
theorem Dd.cells {W wr:World} {b:Nat} {s:ByteArray} {q:Nat} {v:Value} {ts:List (Nat×List UInt8)} (h:Dd W b s q v ts wr) :
    wr.cell? ⟨W.heap.size,0,none⟩=some (.slice none 0 0)∧wr.cell? ⟨W.heap.size,1,none⟩=some (.bool false)∧wr.cell? ⟨W.heap.size,2,none⟩=some (.int .i64 0)∧wr.cell? ⟨W.heap.size,3,none⟩=some (.string ⟨#[]⟩) ∧
    wr.frozen? ⟨W.heap.size,0,none⟩=false∧wr.frozen? ⟨W.heap.size,1,none⟩=false∧wr.frozen? ⟨W.heap.size,2,none⟩=false∧wr.frozen? ⟨W.heap.size,3,none⟩=false∧W.heap.size<wr.heap.size:=by
  refine ⟨?_,?_,?_,?_,?_,?_,?_,?_,(Array.getElem?_eq_some_iff.1 h.r).1⟩
  · rw [cell_of_row _ W.heap.size 0 _ 177 (0,0) h.r];rfl
  · rw [cell_of_row _ W.heap.size 1 _ 177 (0,0) h.r];rfl
  · rw [cell_of_row _ W.heap.size 2 _ 177 (0,0) h.r];rfl
  · rw [cell_of_row _ W.heap.size 3 _ 177 (0,0) h.r];rfl
  all_goals simp [World.frozen?,h.r]
def set4 (w:World) (n:Nat) (u0 u1 u2 u3:Value):World:=(((w.setCell ⟨n,0,none⟩ u0).setCell ⟨n,1,none⟩ u1).setCell ⟨n,2,none⟩ u2).setCell ⟨n,3,none⟩ u3
theorem grownBy_set4 (w:World) (n:Nat) (u0 u1 u2 u3:Value):w.grownBy (set4 w n u0 u1 u2 u3) (some n) :=
  grownBy_trans (grownBy_trans (grownBy_trans (grownBy_set w n 0 u0) (grownBy_set _ n 1 u1) (fun _ e=>.inl e)) (grownBy_set _ n 2 u2) (fun _ e=>.inl e)) (grownBy_set _ n 3 u3) (fun _ e=>.inl e)
theorem Dd.done {W wr:World} {b:Nat} {s:ByteArray} {q:Nat} {v:Value} {ts:List (Nat×List UInt8)} (h:Dd W b s q v ts wr) (u0 u1 u2 u3:Value) :
    Cur (set4 wr W.heap.size u0 u1 u2 u3) b s q∧(set4 wr W.heap.size u0 u1 u2 u3).ownsRow W.heap.size 40 2 v ts.length (flatT (ts.map natT))∧W.grownBy (set4 wr W.heap.size u0 u1 u2 u3) (some b):=by
  have hb:=h.hb
  have hg:=grownBy_set4 wr W.heap.size u0 u1 u2 u3
  refine ⟨?_,own_base (h.own.kept hg (.inr (fun e=>by have:=(h.own.lt _ e).1;omega))) (Nat.le_succ _),grownBy_trans h.gr hg (fun k e=>by simp at e;right;omega)⟩
  have hc:=h.cur
  unfold Cur at *
  rw [hg.block b (Array.getElem?_eq_some_iff.1 hc).1 (by simp;omega)]
  exact hc
def DescPost (s:ByteArray) (pl b:Nat) (W:World) (e:Ending) (w':World):Prop:=match descOf (s.data.toList.drop pl) with
  | some ((ts,x),r)=>∃ v,e=.returned (.tuple #[.agg #[v,.bool (voidB x),.int .i64 (retT x).1,.string ⟨(retT x).2.toArray⟩],.bool true])∧w'.ownsRow W.heap.size 40 2 v ts.length (flatT (ts.map natT))∧Cur w' b s (s.size - r.length)
  | none=>e=.returned (.tuple #[.agg #[.slice none 0 0,.bool false,.int .i64 0,.string ⟨#[]⟩],.bool false])∧∃ q,q≤s.size∧Cur w' b s q
theorem dpost_none {s:ByteArray} {pl b q:Nat} {W w':World} (h:descOf (s.data.toList.drop pl)=none) (hq:q≤s.size) (hc:Cur w' b s q):DescPost s pl b W (.returned (.tuple #[.agg #[.slice none 0 0,.bool false,.int .i64 0,.string ⟨#[]⟩],.bool false])) w':=by
  unfold DescPost;rw [h];exact ⟨rfl,q,hq,hc⟩
theorem dpost_some {s:ByteArray} {pl b q:Nat} {W w':World} {ts:List (Nat×List UInt8)} {x:Option (Nat×List UInt8)} {r:List UInt8} {v:Value} (h:descOf (s.data.toList.drop pl)=some ((ts,x),r)) (hp:q=s.size - r.length)
    (ho:w'.ownsRow W.heap.size 40 2 v ts.length (flatT (ts.map natT))) (hc:Cur w' b s q):DescPost s pl b W (.returned (.tuple #[.agg #[v,.bool (voidB x),.int .i64 (retT x).1,.string ⟨(retT x).2.toArray⟩],.bool true])) w':=by
  unfold DescPost;rw [h];rw [hp] at hc;exact ⟨v,rfl,ho,hc⟩
set_option maxHeartbeats 4000000 in
theorem readDesc_any (b:Nat) (s:ByteArray) (pl:Nat) (hpl:pl≤s.size) (hs:s.size≤1000000) (W:World) (hc:Cur W b s pl) :
    Calls Tryz.prog 156 #[.pointer (some ⟨b,0,none⟩)] W fun e w'=>DescPost s pl b W e w'∧W.grownBy w' (some b):=by
  have hsz:s.data.toList.length=s.size:=by simp
  have HS:Hid (∀ (m:UInt8) (q:Nat) (v:Value) (ts:List (Nat×List UInt8)) (w:World),Hid (Dd W b s q v ts w)→Calls Tryz.prog 171 #[.pointer (some ⟨b,0,none⟩),.string ⟨#[m]⟩] w fun e w'=>e=.returned (.bool (nxt s q m))∧Hid (Dd W b s (if nxt s q m then q+1 else q) v ts w')) :=
    fun m q v ts w h=>(skip_any b s q m h.out.le hs w h.out.cur).mono fun e w' ⟨he,hc,hg⟩=>⟨he,h.out.step hc hg (by
      have:=h.out.le
      split
      · rename_i e;have:=nxt_true e;omega
      · exact this)⟩
  have HT:∀ (q:Nat) (v:Value) (ts:List (Nat×List UInt8)) (w:World),Hid (Dd W b s q v ts w)→Calls Tryz.prog 172 #[.pointer (some ⟨b,0,none⟩)] w fun e w'=>TypePost s q b e w'∧w.grownBy w' (some b) :=
    fun q v ts w h=>readType_any b s q h.out.le hs w h.out.cur
  have H0:Dd W b s pl (.slice none 0 0) [] (W.alloc (.cells zeroD 177)):=⟨hc.keep ((Below.refl _ _).alloc (Nat.le_refl _) _),World.ownsRow_nil _ _ _ _,heap_alloc_new W _,grownBy_below ((Below.refl _ _).alloc (Nat.le_refl _) _),hc.cells.2.2.2,hpl⟩
  have HAR:=readArgs_any b s pl hpl hs _ H0.cur
  unfold ArgPost at HAR
  cases ha:argsOf (s.data.toList.drop pl) with
  | none =>
    have HP:Hid (descOf (s.data.toList.drop pl)=none):=by rw [Hid,descOf,ha]
    rw [ha] at HAR
    have HA:Hid (Calls Tryz.prog 170 #[.pointer (some ⟨b,0,none⟩)] (W.alloc (.cells #[.slice none 0 0,.bool false,.int .i64 0,.string ⟨#[]⟩] 177)) fun e w'=>e=.returned (.tuple #[.slice none 0 0,.bool false])∧∃ q,Hid (Dd W b s q (.slice none 0 0) [] w')) :=
      HAR.mono fun e w' ⟨⟨he,q,hq,hc⟩,hg⟩=>⟨he,q,H0.step hc hg hq⟩
    clear HAR HT HS ha hc H0 hsz
    go_enter Tryz.func156,Tryz.ntmps156
    go_wp2_with (go_at_call 170;refine (HA.out).mono ?_;rintro e w1 ⟨rfl,q,R1⟩;obtain ⟨c0,c1,c2,c3,f0,f1,f2,f3,hz⟩:=R1.out.cells)
    refine bodyPost_ret (v:=.tuple #[.agg #[.slice none 0 0,.bool false,.int .i64 0,.string ⟨#[]⟩],.bool false]) (by simp [results,Tryz.results156,go_sem, *]) rfl ⟨dpost_none HP.out R1.out.le (R1.out.done _ _ _ _).1,(R1.out.done _ _ _ _).2.2⟩
  | some p =>
    obtain ⟨ts,r⟩:=p
    obtain ⟨hrd,hrl⟩:=args_drop ha
    rw [hsz] at hrd hrl
    rw [ha] at HAR
    have HA:Hid (Calls Tryz.prog 170 #[.pointer (some ⟨b,0,none⟩)] (W.alloc (.cells #[.slice none 0 0,.bool false,.int .i64 0,.string ⟨#[]⟩] 177)) fun e w'=>∃ v,e=.returned (.tuple #[v,.bool true])∧Hid (Dd W b s (s.size - r.length) v ts w')) :=
      HAR.mono fun e w' ⟨⟨v,he,ho,hc⟩,hg⟩=>⟨v,he,by
        have h1:=H0.step hc hg (by omega)
        refine ⟨h1.cur,?_,h1.r,h1.gr,h1.hb,h1.le⟩
        have:=ho
        rw [show (W.alloc (.cells zeroD 177)).heap.size=W.heap.size+1 by simp] at this
        exact this⟩
    clear HAR
    obtain ⟨q,hq⟩:∃ q,s.size - r.length=q:=⟨_,rfl⟩
    rw [hq] at HA hrd
    have hqs:q≤s.size:=by omega
    have hnx:nxt s q 86=(r.head? == some 86):=by rw [nxt,← hrd]
    cases h86:nxt s q 86 with
    | true =>
      have hr86:r.head?=some 86:=by rw [h86] at hnx;simpa using hnx.symm
      have hlt:=nxt_true h86
      have HP:Hid (descOf (s.data.toList.drop pl)=some ((ts,none),r.drop 1)):=by rw [Hid,descOf,ha];simp [hr86]
      have HQ:Hid (q+1=s.size - (r.drop 1).length):=by rw [Hid,List.length_drop];omega
      clear HT ha hc H0 hsz hrd hrl hq hnx hr86
      go_enter Tryz.func156,Tryz.ntmps156
      go_wp2_with (first
        | (go_at_call 170;refine (HA.out).mono ?_;rintro e w1 ⟨v,rfl,R1⟩;obtain ⟨ao,cap,rfl⟩:=own_slice R1.out.own)
        | (go_at_call 171;refine (HS.out _ _ _ _ _ R1).mono ?_;rintro e w2 ⟨rfl,R2⟩;rw [h86,if_pos rfl] at R2;obtain ⟨c0,c1,c2,c3,f0,f1,f2,f3,hz⟩:=R2.out.cells))
      refine bodyPost_ret (v:=.tuple #[.agg #[.slice ao ts.length cap,.bool true,.int .i64 0,.string ⟨#[]⟩],.bool true]) (by simp [results,Tryz.results156,go_sem, *]) rfl ⟨dpost_some (x:=none) HP.out HQ.out (R2.out.done _ _ _ _).2.1 (R2.out.done _ _ _ _).1,(R2.out.done _ _ _ _).2.2⟩
    | false =>
      have hr86:r.head?≠some 86:=by rw [h86] at hnx;simpa using hnx.symm
      cases hr:readT r with
      | none =>
        have HP:Hid (descOf (s.data.toList.drop pl)=none):=by rw [Hid,descOf,ha];simp [hr86,hr]
        have HT':Hid (∀ v w,Hid (Dd W b s q v ts w)→Calls Tryz.prog 172 #[.pointer (some ⟨b,0,none⟩)] w fun e w'=>e=.returned (.tuple #[.agg #[.int .i64 0,.string ⟨#[]⟩],.bool false])∧∃ q',Hid (Dd W b s q' v ts w')):=fun v w h =>
          (HT q v ts w h).mono fun e w' ⟨hp,hgr⟩=>by
            unfold TypePost at hp
            rw [← hrd,hr] at hp
            obtain ⟨he,q',hq',hc'⟩:=hp
            exact ⟨he,q',h.out.step hc' hgr hq'⟩
        clear HT ha hc H0 hsz hrd hrl hq hnx hr86 hr
        go_enter Tryz.func156,Tryz.ntmps156
        go_wp2_with (first
          | (go_at_call 170;refine (HA.out).mono ?_;rintro e w1 ⟨v,rfl,R1⟩;obtain ⟨ao,cap,rfl⟩:=own_slice R1.out.own)
          | (go_at_call 171;refine (HS.out _ _ _ _ _ R1).mono ?_;rintro e w2 ⟨rfl,R2⟩;rw [h86,if_neg Bool.false_ne_true] at R2)
          | (go_at_call 172;refine (HT'.out _ _ R2).mono ?_;rintro e w3 ⟨rfl,q',R3⟩;obtain ⟨c0,c1,c2,c3,f0,f1,f2,f3,hz⟩:=R3.out.cells))
        have R5:=R3.out.done (.slice none 0 0) (.bool false) (.int .i64 0) (.string ⟨#[]⟩)
        have hal:Below (set4 w3 W.heap.size (.slice none 0 0) (.bool false) (.int .i64 0) (.string ⟨#[]⟩)).heap.size (set4 w3 W.heap.size (.slice none 0 0) (.bool false) (.int .i64 0) (.string ⟨#[]⟩)) ((set4 w3 W.heap.size (.slice none 0 0) (.bool false) (.int .i64 0) (.string ⟨#[]⟩)).alloc (.cells #[.int .i64 0,.string ⟨#[]⟩] 40)):=(Below.refl _ _).alloc (Nat.le_refl _) _
        refine bodyPost_ret (v:=.tuple #[.agg #[.slice none 0 0,.bool false,.int .i64 0,.string ⟨#[]⟩],.bool false]) (by simp [results,Tryz.results156,go_sem, *]) rfl ⟨dpost_none HP.out R3.out.le (R5.1.keep hal),grownBy_trans R5.2.2 (grownBy_below hal (r:=some b)) (fun _ e=>.inl e)⟩
      | some p =>
        obtain ⟨⟨k,nm⟩,y⟩:=p
        have hrd2:=hrd
        obtain ⟨hyd,hyq,hyl⟩:=read_drop (l:=s.data.toList) (q:=q) (by rw [← hrd2];exact hr)
        rw [hsz] at hyd hyq hyl
        have HP:Hid (descOf (s.data.toList.drop pl)=some ((ts,some (k,nm)),y)):=by rw [Hid,descOf,ha];simp [hr86,hr]
        have HT':Hid (∀ v w,Hid (Dd W b s q v ts w)→Calls Tryz.prog 172 #[.pointer (some ⟨b,0,none⟩)] w fun e w'=>e=.returned (.tuple #[.agg #[.int .i64 k,.string ⟨nm.toArray⟩],.bool true])∧Hid (Dd W b s (s.size - y.length) v ts w')):=fun v w h =>
          (HT q v ts w h).mono fun e w' ⟨hp,hgr⟩=>by
            unfold TypePost at hp
            rw [← hrd,hr] at hp
            exact ⟨hp.1,h.out.step hp.2 hgr (by omega)⟩
        clear HT ha hc H0 hsz hrd hrl hq hnx hr86 hr hrd2 hyd hyq hyl
        go_enter Tryz.func156,Tryz.ntmps156
        go_wp2_with (first
          | (go_at_call 170;refine (HA.out).mono ?_;rintro e w1 ⟨v,rfl,R1⟩;obtain ⟨ao,cap,rfl⟩:=own_slice R1.out.own)
          | (go_at_call 171;refine (HS.out _ _ _ _ _ R1).mono ?_;rintro e w2 ⟨rfl,R2⟩;rw [h86,if_neg Bool.false_ne_true] at R2)
          | (go_at_call 172;refine (HT'.out _ _ R2).mono ?_;rintro e w3 ⟨rfl,R3⟩;obtain ⟨c0,c1,c2,c3,f0,f1,f2,f3,hz⟩:=R3.out.cells))
        have R5:=R3.out.done (.slice ao ts.length cap) (.bool false) (.int .i64 k) (.string ⟨nm.toArray⟩)
        have hal:Below (set4 w3 W.heap.size (.slice ao ts.length cap) (.bool false) (.int .i64 k) (.string ⟨nm.toArray⟩)).heap.size (set4 w3 W.heap.size (.slice ao ts.length cap) (.bool false) (.int .i64 k) (.string ⟨nm.toArray⟩)) ((set4 w3 W.heap.size (.slice ao ts.length cap) (.bool false) (.int .i64 k) (.string ⟨nm.toArray⟩)).alloc (.cells #[.int .i64 k,.string ⟨nm.toArray⟩] 40)):=(Below.refl _ _).alloc (Nat.le_refl _) _
        refine bodyPost_ret (v:=.tuple #[.agg #[.slice ao ts.length cap,.bool false,.int .i64 k,.string ⟨nm.toArray⟩],.bool true]) (by simp [results,Tryz.results156,go_sem, *]) rfl ⟨dpost_some (x:=some (k,nm)) HP.out rfl (own_below R5.2.1 hal (Nat.le_refl _)) (R5.1.keep hal),grownBy_trans R5.2.2 (grownBy_below hal (r:=some b)) (fun _ e=>.inl e)⟩
def parE (l:List UInt8):Int:=if 2000<l.length then 5 else match readT l with
  | some (t,[])=>if 255<t.1 then 5 else 0
  | _=>4
def parT (l:List UInt8):Nat×List UInt8:=if parE l=0 then (match readT l with
  | some (t,_)=>t
  | none=>(0,[])) else (0,[])
def prfE (l:List UInt8):Int:=if 2000<l.length then 5 else if l.head?=some 91 then parE l else if validL l then 0 else 4
def prfT (l:List UInt8):Nat×List UInt8:=if 2000<l.length then (0,[]) else if l.head?=some 91 then parT l else if validL l then (0,l) else (0,[])
structure Pst (w:World) (s:ByteArray) (q:Nat) (w2:World):Prop where
  r:w2.heap[w.heap.size]?=some (.cells #[.int .i64 0,.string ⟨#[]⟩] 40 (0,0))
  cur:Cur w2 (w.heap.size+1) s q
  bel:Below w.heap.size w w2
theorem Pst.keep {w w2 w3:World} {s:ByteArray} {q:Nat} (h:Pst w s q w2) (hb:Below w2.heap.size w2 w3):Pst w s q w3 :=
  ⟨by rw [hb.block _ (Array.getElem?_eq_some_iff.1 h.r).1];exact h.r,h.cur.keep hb,Below.step h.bel hb⟩
theorem Pst.cells {w wr:World} {s:ByteArray} {q:Nat} (h:Pst w s q wr) :
    wr.cell? ⟨w.heap.size,0,none⟩=some (.int .i64 0)∧wr.cell? ⟨w.heap.size,1,none⟩=some (.string ⟨#[]⟩)∧wr.frozen? ⟨w.heap.size,0,none⟩=false∧wr.frozen? ⟨w.heap.size,1,none⟩=false∧w.heap.size+1<wr.heap.size∧w.heap.size<wr.heap.size:=by
  refine ⟨?_,?_,?_,?_,h.cur.cells.2.2.2,Nat.lt_of_succ_lt h.cur.cells.2.2.2⟩
  · rw [cell_of_row _ w.heap.size 0 _ 40 (0,0) h.r];rfl
  · rw [cell_of_row _ w.heap.size 1 _ 40 (0,0) h.r];rfl
  all_goals simp [World.frozen?,h.r]
theorem Pst.done {w w2:World} {s:ByteArray} {q:Nat} (h:Pst w s q w2) (u v:Value):Below w.heap.size w ((w2.setCell ⟨w.heap.size,0,none⟩ u).setCell ⟨w.heap.size,1,none⟩ v) :=
  (h.bel.setCell (Nat.le_refl _) _).setCell (Nat.le_refl _) _
theorem Pst.first (w:World) (s:ByteArray):Pst w s 0 ((w.alloc (.cells #[.int .i64 0,.string ⟨#[]⟩] 40)).alloc (.cells #[.string s,.int .i64 0] 214)):=by
  refine ⟨?_,?_,((Below.refl _ _).alloc (Nat.le_refl _) _).alloc (by simp) _⟩
  · rw [Below.heap_alloc _ _ _ (by simp)];exact heap_alloc_new w _
  · have:=heap_alloc_new (w.alloc (.cells #[.int .i64 0,.string ⟨#[]⟩] 40)) (.cells #[.string s,.int .i64 0] 214)
    unfold Cur
    simpa using this
theorem Pst.grown {w w2 w3:World} {s:ByteArray} {q q':Nat} (h:Pst w s q w2) (hg:w2.grownBy w3 (some (w.heap.size+1))) (hc:Cur w3 (w.heap.size+1) s q'):Pst w s q' w3 :=
  ⟨by rw [hg.block _ (Array.getElem?_eq_some_iff.1 h.r).1 (by simp)];exact h.r,hc,h.bel.grown hg h.bel.size (fun k e=>by simp at e;omega)⟩
set_option maxHeartbeats 1000000 in
theorem parse_any (s:ByteArray) (hs:s.size≤maxLen) (w:World) :
    Calls Tryz.prog 196 #[.string s] w fun e w'=>e=.returned (.tuple #[.agg #[.int .i64 (parT s.data.toList).1,.string ⟨(parT s.data.toList).2.toArray⟩],.int .i64 (parE s.data.toList)])∧Below w.heap.size w w':=by
  have hlen:s.data.toList.length=s.size:=by simp
  unfold maxLen at hs
  by_cases hbig:2000<s.size
  · have HE:Hid (parE s.data.toList=5):=by rw [Hid,parE,if_pos (by rw [hlen];exact hbig)]
    have HT:Hid (parT s.data.toList=(0,[])):=by rw [Hid,parT,HE.out];rfl
    clear hlen
    generalize parE s.data.toList=x at *
    generalize parT s.data.toList=t at *
    go_enter Tryz.func196,Tryz.ntmps196
    go_wp2
    refine bodyPost_ret (v:=.tuple #[.agg #[.int .i64 0,.string ⟨#[]⟩],.int .i64 5]) (by simp [results,Tryz.results196,go_sem, *]) rfl ⟨?_,?_⟩
    · rw [HT.out,HE.out];rfl
    · exact (Below.refl _ _).alloc (Nat.le_refl _) _
  · have HR:=readType_any (w.heap.size+1) s 0 (Nat.zero_le _) (by omega) _ (Pst.first w s).cur
    have hE:parE s.data.toList=match readT s.data.toList with
      | some (t,[])=>if 255<t.1 then 5 else 0
      | _=>4:=by rw [parE,if_neg (by rw [hlen];exact hbig)];try rfl
    have HN:Hid (∀ w,_):=newCursor_any s
    have HA:Hid (∀ (q:Nat) (w2 w3:World),Hid (Pst w s q w2)→Below w2.heap.size w2 w3→Calls Tryz.prog 157 #[.pointer (some ⟨w.heap.size+1,0,none⟩)] w3 fun e w'=>e=.returned (.bool (decide (q=s.size)))∧Below w3.heap.size w3 w') :=
      fun q w2 w3 h hb=>atEnd_any (w.heap.size+1) s q w3 (h.out.keep hb).cur
    unfold TypePost at HR
    rw [List.drop_zero] at HR
    cases hr:readT s.data.toList with
    | none =>
      rw [hr] at hE HR
      have HE:Hid (parE s.data.toList=4):=hE
      have HT:Hid (parT s.data.toList=(0,[])):=by rw [Hid,parT,HE.out];rfl
      have HQ:Hid (Calls Tryz.prog 172 #[.pointer (some ⟨w.heap.size+1,0,none⟩)] ((w.alloc (.cells #[.int .i64 0,.string ⟨#[]⟩] 40)).alloc (.cells #[.string s,.int .i64 0] 214)) fun e w'=>e=.returned (.tuple #[.agg #[.int .i64 0,.string ⟨#[]⟩],.bool false])∧∃ q,Hid (Pst w s q w')) :=
        HR.mono fun e w' ⟨⟨he,q,_,hc⟩,hg⟩=>⟨he,q,(Pst.first w s).grown hg hc⟩
      clear hE HR hr hlen
      generalize parE s.data.toList=x at *
      generalize parT s.data.toList=t at *
      go_enter Tryz.func196,Tryz.ntmps196
      go_wp2_with (first
        | (go_at_call 155;refine ((HN.out) _).mono ?_;rintro e w1 ⟨rfl,rfl⟩)
        | (go_at_call 172;refine (HQ.out).mono ?_;rintro e w2 ⟨rfl,q,hP⟩;obtain ⟨c0,c1,f0,f1,hz,hz'⟩:=hP.out.cells))
      refine bodyPost_ret (v:=.tuple #[.agg #[.int .i64 0,.string ⟨#[]⟩],.int .i64 4]) (by simp [results,Tryz.results196,go_sem, *]) rfl ⟨?_,?_⟩
      · rw [HT.out,HE.out];rfl
      · exact (hP.out.done _ _).alloc (by simp;omega) _
    | some p =>
      obtain ⟨⟨k,nm⟩,r⟩:=p
      rw [hr] at hE HR
      have hrl:=readT_less hr
      rw [hlen] at hrl
      have HQ:Hid (Calls Tryz.prog 172 #[.pointer (some ⟨w.heap.size+1,0,none⟩)] ((w.alloc (.cells #[.int .i64 0,.string ⟨#[]⟩] 40)).alloc (.cells #[.string s,.int .i64 0] 214)) fun e w'=>e=.returned (.tuple #[.agg #[.int .i64 k,.string ⟨nm.toArray⟩],.bool true])∧Hid (Pst w s (s.size - r.length) w')) :=
        HR.mono fun e w' ⟨⟨he,hc⟩,hg⟩=>⟨he,(Pst.first w s).grown hg hc⟩
      cases r with
      | cons c q =>
        have HE:Hid (parE s.data.toList=4):=hE
        have HT:Hid (parT s.data.toList=(0,[])):=by rw [Hid,parT,HE.out];rfl
        obtain ⟨m,hm⟩:∃ m:Nat,s.size - (c::q).length=m:=⟨_,rfl⟩
        rw [hm] at HQ
        have hne:decide (m=s.size)=false:=by simp at hm hrl ⊢;omega
        have HA':Hid (∀ (w2 w3:World),Hid (Pst w s m w2)→Below w2.heap.size w2 w3→Calls Tryz.prog 157 #[.pointer (some ⟨w.heap.size+1,0,none⟩)] w3 fun e w'=>e=.returned (.bool false)∧Below w3.heap.size w3 w'):=fun w2 w3 h hb=>by have:=HA.out m w2 w3 h hb;rw [hne] at this;exact this
        clear hE HR hr hlen hm hrl hne HA
        generalize parE s.data.toList=x at *
        generalize parT s.data.toList=t at *
        go_enter Tryz.func196,Tryz.ntmps196
        go_wp2_with (first
          | (go_at_call 155;refine ((HN.out) _).mono ?_;rintro e w1 ⟨rfl,rfl⟩)
          | (go_at_call 172;refine (HQ.out).mono ?_;rintro e w2 ⟨rfl,hP⟩;obtain ⟨c0,c1,f0,f1,hz,hz'⟩:=hP.out.cells)
          | (go_at_call 157;refine (HA'.out _ _ hP ((Below.refl _ _).alloc (Nat.le_refl _) _)).mono ?_;rintro e w3 ⟨rfl,hb3⟩;have hP3:Hid (Pst w s m w3):=(hP.out.keep ((Below.refl _ _).alloc (Nat.le_refl _) _)).keep hb3;have t0:w3.cell? ⟨w2.heap.size,0,none⟩=some (.int .i64 k):=(by rw [hb3.cell (p:=⟨w2.heap.size,0,none⟩) (by simp),cell_of_row _ w2.heap.size 0 _ 40 (0,0) (heap_alloc_new w2 _)];rfl);have t1:w3.cell? ⟨w2.heap.size,1,none⟩=some (.string ⟨nm.toArray⟩):=(by rw [hb3.cell (p:=⟨w2.heap.size,1,none⟩) (by simp),cell_of_row _ w2.heap.size 1 _ 40 (0,0) (heap_alloc_new w2 _)];rfl);have hs3:w2.heap.size<w3.heap.size:=(by have:=hb3.size;simp at this;omega);clear hb3;obtain ⟨d0,d1,g0,g1,hy,hy'⟩:=hP3.out.cells))
        refine bodyPost_ret (v:=.tuple #[.agg #[.int .i64 0,.string ⟨#[]⟩],.int .i64 4]) (by simp [results,Tryz.results196,go_sem, *]) rfl ⟨?_,?_⟩
        · rw [HT.out,HE.out];rfl
        · exact hP3.out.done _ _
      | nil =>
        have HA':Hid (∀ (w2 w3:World),Hid (Pst w s s.size w2)→Below w2.heap.size w2 w3→Calls Tryz.prog 157 #[.pointer (some ⟨w.heap.size+1,0,none⟩)] w3 fun e w'=>e=.returned (.bool true)∧Below w3.heap.size w3 w'):=fun w2 w3 h hb=>by have:=HA.out s.size w2 w3 h hb;simp only [decide_true] at this;exact this
        have HD:Hid (∀ w,_):=isDeep_any k ⟨nm.toArray⟩
        have h0:s.size - ([]:List UInt8).length=s.size:=rfl
        rw [h0] at HQ
        by_cases hk:255<k
        · have HE:Hid (parE s.data.toList=5):=by rw [Hid,hE];simp [hk]
          have HT:Hid (parT s.data.toList=(0,[])):=by rw [Hid,parT,HE.out];rfl
          have hdk:decide ((255:Int)<(k:Int))=true:=by simp;omega
          rw [hdk] at HD
          clear hE HR hr hlen hrl h0 HA hdk
          generalize parE s.data.toList=x at *
          generalize parT s.data.toList=t at *
          go_enter Tryz.func196,Tryz.ntmps196
          go_wp2_with (first
            | (go_at_call 155;refine ((HN.out) _).mono ?_;rintro e w1 ⟨rfl,rfl⟩)
            | (go_at_call 172;refine (HQ.out).mono ?_;rintro e w2 ⟨rfl,hP⟩;obtain ⟨c0,c1,f0,f1,hz,hz'⟩:=hP.out.cells)
            | (go_at_call 157;refine (HA'.out _ _ hP ((Below.refl _ _).alloc (Nat.le_refl _) _)).mono ?_;rintro e w3 ⟨rfl,hb3⟩;have hP3:Hid (Pst w s s.size w3):=(hP.out.keep ((Below.refl _ _).alloc (Nat.le_refl _) _)).keep hb3;have t0:w3.cell? ⟨w2.heap.size,0,none⟩=some (.int .i64 k):=(by rw [hb3.cell (p:=⟨w2.heap.size,0,none⟩) (by simp),cell_of_row _ w2.heap.size 0 _ 40 (0,0) (heap_alloc_new w2 _)];rfl);have t1:w3.cell? ⟨w2.heap.size,1,none⟩=some (.string ⟨nm.toArray⟩):=(by rw [hb3.cell (p:=⟨w2.heap.size,1,none⟩) (by simp),cell_of_row _ w2.heap.size 1 _ 40 (0,0) (heap_alloc_new w2 _)];rfl);have hs3:w2.heap.size<w3.heap.size:=(by have:=hb3.size;simp at this;omega);clear hb3;obtain ⟨d0,d1,g0,g1,hy,hy'⟩:=hP3.out.cells)
            | (go_at_call 101;refine ((HD.out) _).mono ?_;rintro e w4 ⟨rfl,hb4⟩;have hP4:Hid (Pst w s s.size w4):=hP3.out.keep hb4;have t2:w4.cell? ⟨w2.heap.size,0,none⟩=some (.int .i64 k):=(hb4.cell (p:=⟨w2.heap.size,0,none⟩) hs3).trans t0;have t3:w4.cell? ⟨w2.heap.size,1,none⟩=some (.string ⟨nm.toArray⟩):=(hb4.cell (p:=⟨w2.heap.size,1,none⟩) hs3).trans t1;clear hb4;obtain ⟨b0,b1,b2,b3,b4,b5⟩:=hP4.out.cells))
          refine bodyPost_ret (v:=.tuple #[.agg #[.int .i64 0,.string ⟨#[]⟩],.int .i64 5]) (by simp [results,Tryz.results196,go_sem, *]) rfl ⟨?_,?_⟩
          · rw [HT.out,HE.out];rfl
          · exact hP4.out.done _ _
        · have HE:Hid (parE s.data.toList=0):=by rw [Hid,hE];simp [hk]
          have HT:Hid (parT s.data.toList=(k,nm)):=by rw [Hid,parT,HE.out,hr];rfl
          have hdk:decide ((255:Int)<(k:Int))=false:=by simp;omega
          rw [hdk] at HD
          clear hE HR hr hlen hrl h0 HA hdk
          generalize parE s.data.toList=x at *
          generalize parT s.data.toList=t at *
          go_enter Tryz.func196,Tryz.ntmps196
          go_wp2_with (first
            | (go_at_call 155;refine ((HN.out) _).mono ?_;rintro e w1 ⟨rfl,rfl⟩)
            | (go_at_call 172;refine (HQ.out).mono ?_;rintro e w2 ⟨rfl,hP⟩;obtain ⟨c0,c1,f0,f1,hz,hz'⟩:=hP.out.cells)
            | (go_at_call 157;refine (HA'.out _ _ hP ((Below.refl _ _).alloc (Nat.le_refl _) _)).mono ?_;rintro e w3 ⟨rfl,hb3⟩;have hP3:Hid (Pst w s s.size w3):=(hP.out.keep ((Below.refl _ _).alloc (Nat.le_refl _) _)).keep hb3;have t0:w3.cell? ⟨w2.heap.size,0,none⟩=some (.int .i64 k):=(by rw [hb3.cell (p:=⟨w2.heap.size,0,none⟩) (by simp),cell_of_row _ w2.heap.size 0 _ 40 (0,0) (heap_alloc_new w2 _)];rfl);have t1:w3.cell? ⟨w2.heap.size,1,none⟩=some (.string ⟨nm.toArray⟩):=(by rw [hb3.cell (p:=⟨w2.heap.size,1,none⟩) (by simp),cell_of_row _ w2.heap.size 1 _ 40 (0,0) (heap_alloc_new w2 _)];rfl);have hs3:w2.heap.size<w3.heap.size:=(by have:=hb3.size;simp at this;omega);clear hb3;obtain ⟨d0,d1,g0,g1,hy,hy'⟩:=hP3.out.cells)
            | (go_at_call 101;refine ((HD.out) _).mono ?_;rintro e w4 ⟨rfl,hb4⟩;have hP4:Hid (Pst w s s.size w4):=hP3.out.keep hb4;have t2:w4.cell? ⟨w2.heap.size,0,none⟩=some (.int .i64 k):=(hb4.cell (p:=⟨w2.heap.size,0,none⟩) hs3).trans t0;have t3:w4.cell? ⟨w2.heap.size,1,none⟩=some (.string ⟨nm.toArray⟩):=(hb4.cell (p:=⟨w2.heap.size,1,none⟩) hs3).trans t1;clear hb4;obtain ⟨b0,b1,b2,b3,b4,b5⟩:=hP4.out.cells))
          refine bodyPost_ret (v:=.tuple #[.agg #[.int .i64 k,.string ⟨nm.toArray⟩],.int .i64 0]) (by simp [results,Tryz.results196,go_sem, *]) rfl ⟨?_,?_⟩
          · rw [HT.out,HE.out]
          · exact hP4.out.done _ _
def deepI (t:Int×ByteArray):Bool:=decide (255<t.1)
set_option maxHeartbeats 1000000 in
theorem indexFunc_any (v:Value) (ts:List (Int×ByteArray)) (W:World) (h:IsTys W v ts) :
    Calls Tryz.prog 173 #[v,.func (.func 101) #[] #[]] W fun e w'=>(∃ i:Int,e=.returned (.int .i64 i)∧decide (0≤i)=ts.any deepI)∧Below W.heap.size W w':=by
  obtain ⟨ao,cap,rfl,h1,h2,h3⟩:=h
  unfold maxLen at h2
  have H3:Hid _:=h3
  clear h3
  have HD:Hid (∀ (d:Int) (n:ByteArray) (w:World),_):=isDeep_any
  go_enter Tryz.func173,Tryz.ntmps173
  go_wp2
  go_loopw [8] (fun iv wr=>∃ i:Nat,iv=.int .i64 i∧i≤ts.length∧Hid (Below W.heap.size W wr)∧Hid ((ts.drop i).any deepI=ts.any deepI)) (fun iv _=>ts.length - (intOf iv).toNat)
  case atStart=>exact ⟨0,rfl,Nat.zero_le _,Below.refl _ _,rfl⟩
  case round =>
    obtain ⟨i,rfl,hi,hb,ha⟩:=hrel
    by_cases hlt:i<ts.length
    · obtain ⟨bk,o,hao,hbk,hc⟩:=H3.out (by intro e;rw [e] at hlt;simp at hlt)
      obtain ⟨⟨d,n⟩,ht⟩:∃ t,ts[i]?=some t:=⟨_,List.getElem?_eq_getElem hlt⟩
      subst hao
      obtain ⟨c0,c1⟩:=hc i _ ht
      have k0:wr.cell? ⟨bk,o+i * 2,none⟩=some (.int .i64 d):=(hb.out.cell (p:=⟨bk,o+i * 2,none⟩) hbk).trans c0
      have k1:wr.cell? ⟨bk,o+i * 2+1,none⟩=some (.string n):=(hb.out.cell (p:=⟨bk,o+i * 2+1,none⟩) hbk).trans c1
      have hdr:ts.drop i=(d,n)::ts.drop (i+1):=by
        rw [List.drop_eq_getElem_cons hlt]
        rw [List.getElem?_eq_getElem hlt] at ht
        rw [Option.some.inj ht]
      have HI:Hid (∀ w,_):=HD.out d n
      by_cases hd:255<d
      · have HA:Hid (ts.any deepI=true):=by rw [Hid,← ha.out,hdr];simp [deepI,hd]
        have hdd:decide (255<d)=true:=by simpa using hd
        rw [hdd] at HI
        clear hc c0 c1 H3 HD hdr ht ha hd hdd
        go_wp2_with (go_at_call 101;refine (HI.out _).mono ?_;rintro e w1 ⟨rfl,hb1⟩)
        go_ret
        exact ⟨⟨i,rfl,by rw [HA.out];simp⟩,Below.step hb.out hb1⟩
      · have HA:Hid ((ts.drop (i+1)).any deepI=ts.any deepI):=by rw [Hid,← ha.out,hdr];simp [deepI,hd]
        have hdd:decide (255<d)=false:=by simpa using hd
        rw [hdd] at HI
        clear hc c0 c1 H3 HD hdr ht ha hd hdd
        go_wp2_with (go_at_call 101;refine (HI.out _).mono ?_;rintro e w1 ⟨rfl,hb1⟩;have hb2:Hid (Below W.heap.size W w1):=Below.step hb.out hb1;clear hb1)
        go_roundw
        case rel=>exact ⟨i+1,by go_num,by omega,hb2,HA⟩
        case measure=>simp [intOf];omega
    · have HA:Hid (ts.any deepI=false):=by rw [Hid,← ha.out,List.drop_of_length_le (by omega)];rfl
      clear H3 HD ha
      go_wp2
      go_ret
      exact ⟨⟨-1,rfl,by rw [HA.out];rfl⟩,hb.out⟩
set_option maxHeartbeats 400000 in
theorem contains_any (v:Value) (ts:List (Int×ByteArray)) (W:World) (h:IsTys W v ts) :
    Calls Tryz.prog 158 #[v,.func (.func 101) #[] #[]] W fun e w'=>e=.returned (.bool (ts.any deepI))∧Below W.heap.size W w':=by
  have HI:Hid (Calls Tryz.prog 173 #[v,.func (.func 101) #[] #[]] W fun e w'=>(∃ i:Int,e=.returned (.int .i64 i)∧Hid (decide (0≤i)=ts.any deepI))∧Below W.heap.size W w'):=indexFunc_any v ts W h
  obtain ⟨ao,cap,rfl,_⟩:=h
  go_enter Tryz.func158,Tryz.ntmps158
  go_wp2_with (go_at_call 173;refine (HI.out).mono ?_;rintro e w1 ⟨⟨i,rfl,hi⟩,hb1⟩)
  go_ret
  exact ⟨ret_bool hi.out,hb1⟩
theorem descOf_readD (l:List UInt8):readD l=match descOf l with
    | some (d,[])=>some d
    | _=>none:=by
  unfold readD descOf
  split
  · rename_i r
    have ha:argsOf (40::r)=readArgs (r.length+1) r:=rfl
    rw [ha]
    cases e:readArgs (r.length+1) r with
    | none=>rfl
    | some p =>
      obtain ⟨ts,q⟩:=p
      simp only
      by_cases h86:q.head?=some 86
      · rw [if_pos h86]
        cases q with
        | nil=>simp at h86
        | cons c q =>
          simp at h86
          subst h86
          cases q with
          | nil=>rfl
          | cons c2 q2 =>
            have hr:readT (86::c2::q2)=none:=by simp [readT,bracks]
            simp [readRet,hr]
      · rw [if_neg h86]
        have hne:q≠[86]:=fun z=>by rw [z] at h86;exact h86 rfl
        unfold readRet
        rw [if_neg hne]
        cases hr:readT q with
        | none=>rfl
        | some p =>
          obtain ⟨t,r2⟩:=p
          cases r2 <;> rfl
  · rename_i hx
    have ha:argsOf l=none:=by
      unfold argsOf
      split
      · rename_i r;exact absurd rfl (hx r)
      · rfl
    rw [ha]
def largeD (d:List (Nat×List UInt8)×Option (Nat×List UInt8)):Bool:=decide (20<d.1.length)||decide (255<(retT d.2).1)||(d.1.map natT).any deepI
def pdE (l:List UInt8):Int:=if 2000<l.length then 5 else match readD l with
  | none=>4
  | some d=>if largeD d then 5 else 0
def pdD (l:List UInt8):List (Nat×List UInt8)×Option (Nat×List UInt8):=if pdE l=0 then (readD l).getD ([],some (0,[])) else ([],some (0,[]))
def DOut (l:List UInt8) (w:World) (e:Ending) (w':World):Prop :=
  ∃ v,e=.returned (.tuple #[.agg #[v,.bool (voidB (pdD l).2),.int .i64 (retT (pdD l).2).1,.string ⟨(retT (pdD l).2).2.toArray⟩],.int .i64 (pdE l)]) ∧
    w'.ownsRow w.heap.size 40 2 v (pdD l).1.length (flatT ((pdD l).1.map natT))∧Below w.heap.size w w'
theorem dout_err {l:List UInt8} {w w':World} {x:Int} (h:pdE l=x) (hx:x≠0) (hb:Below w.heap.size w w'):DOut l w (.returned (.tuple #[.agg #[.slice none 0 0,.bool false,.int .i64 0,.string ⟨#[]⟩],.int .i64 x])) w':=by
  have e:pdD l=([],some (0,[])):=by rw [pdD,if_neg (by rw [h];exact hx)]
  unfold DOut
  rw [e,h]
  exact ⟨_,rfl,World.ownsRow_nil _ _ _ _,hb⟩
theorem dout_ok {l:List UInt8} {w w':World} {ts:List (Nat×List UInt8)} {x:Option (Nat×List UInt8)} {v:Value} (h:readD l=some (ts,x)) (hl:l.length≤2000) (hg:largeD (ts,x)=false)
    (ho:w'.ownsRow w.heap.size 40 2 v ts.length (flatT (ts.map natT))) (hb:Below w.heap.size w w'):DOut l w (.returned (.tuple #[.agg #[v,.bool (voidB x),.int .i64 (retT x).1,.string ⟨(retT x).2.toArray⟩],.int .i64 0])) w':=by
  have h0:pdE l=0:=by rw [pdE,if_neg (by omega),h];simp [hg]
  have e:pdD l=(ts,x):=by rw [pdD,if_pos h0,h];rfl
  unfold DOut
  rw [e,h0]
  exact ⟨v,rfl,ho,hb⟩
structure Pd (w:World) (s:ByteArray) (q:Nat) (v:Value) (ts:List (Nat×List UInt8)) (w2:World):Prop where
  r:w2.heap[w.heap.size]?=some (.cells zeroD 177 (0,0))
  cur:Cur w2 (w.heap.size+1) s q
  own:w2.ownsRow (w.heap.size+1) 40 2 v ts.length (flatT (ts.map natT))
  bel:Below w.heap.size w w2
theorem Pd.keep {w w2 w3:World} {s:ByteArray} {q:Nat} {v:Value} {ts:List (Nat×List UInt8)} (h:Pd w s q v ts w2) (hb:Below w2.heap.size w2 w3):Pd w s q v ts w3 :=
  ⟨by rw [hb.block _ (Array.getElem?_eq_some_iff.1 h.r).1];exact h.r,h.cur.keep hb,own_below h.own hb (Nat.le_refl _),Below.step h.bel hb⟩
theorem Pd.cells {w wr:World} {s:ByteArray} {q:Nat} {v:Value} {ts:List (Nat×List UInt8)} (h:Pd w s q v ts wr) :
    wr.cell? ⟨w.heap.size,0,none⟩=some (.slice none 0 0)∧wr.cell? ⟨w.heap.size,1,none⟩=some (.bool false)∧wr.cell? ⟨w.heap.size,2,none⟩=some (.int .i64 0)∧wr.cell? ⟨w.heap.size,3,none⟩=some (.string ⟨#[]⟩) ∧
    wr.frozen? ⟨w.heap.size,0,none⟩=false∧wr.frozen? ⟨w.heap.size,1,none⟩=false∧wr.frozen? ⟨w.heap.size,2,none⟩=false∧wr.frozen? ⟨w.heap.size,3,none⟩=false∧w.heap.size+1<wr.heap.size∧w.heap.size<wr.heap.size:=by
  refine ⟨?_,?_,?_,?_,?_,?_,?_,?_,h.cur.cells.2.2.2,Nat.lt_of_succ_lt h.cur.cells.2.2.2⟩
  · rw [cell_of_row _ w.heap.size 0 _ 177 (0,0) h.r];rfl
  · rw [cell_of_row _ w.heap.size 1 _ 177 (0,0) h.r];rfl
  · rw [cell_of_row _ w.heap.size 2 _ 177 (0,0) h.r];rfl
  · rw [cell_of_row _ w.heap.size 3 _ 177 (0,0) h.r];rfl
  all_goals simp [World.frozen?,h.r]
theorem Pd.done {w wr:World} {s:ByteArray} {q:Nat} {v:Value} {ts:List (Nat×List UInt8)} (h:Pd w s q v ts wr) (u0 u1 u2 u3:Value) :
    (set4 wr w.heap.size u0 u1 u2 u3).ownsRow w.heap.size 40 2 v ts.length (flatT (ts.map natT))∧Below w.heap.size w (set4 wr w.heap.size u0 u1 u2 u3):=by
  have hg:=grownBy_set4 wr w.heap.size u0 u1 u2 u3
  exact ⟨own_base (h.own.kept hg (.inr (fun e=>by have:=(h.own.lt _ e).1;omega))) (Nat.le_succ _),h.bel.grown hg h.bel.size (fun k e=>by simp at e;omega)⟩
theorem Pd.first (w:World) (s:ByteArray):Pd w s 0 (.slice none 0 0) [] ((w.alloc (.cells zeroD 177)).alloc (.cells #[.string s,.int .i64 0] 214)):=by
  refine ⟨?_,?_,World.ownsRow_nil _ _ _ _,((Below.refl _ _).alloc (Nat.le_refl _) _).alloc (by simp) _⟩
  · rw [Below.heap_alloc _ _ _ (by simp)];exact heap_alloc_new w _
  · have:=heap_alloc_new (w.alloc (.cells zeroD 177)) (.cells #[.string s,.int .i64 0] 214)
    unfold Cur
    simpa using this
theorem Pd.grown {w w2 w3:World} {s:ByteArray} {q q':Nat} {v v':Value} {ts ts':List (Nat×List UInt8)} (h:Pd w s q v ts w2) (hg:w2.grownBy w3 (some (w.heap.size+1))) (hc:Cur w3 (w.heap.size+1) s q')
    (ho:w3.ownsRow (w.heap.size+1) 40 2 v' ts'.length (flatT (ts'.map natT))):Pd w s q' v' ts' w3 :=
  ⟨by rw [hg.block _ (Array.getElem?_eq_some_iff.1 h.r).1 (by simp)];exact h.r,hc,ho,h.bel.grown hg h.bel.size (fun k e=>by simp at e;omega)⟩
theorem four_new (w:World) (x0 x1 x2 x3:Value) (t:TypeId):(w.alloc (.cells #[x0,x1,x2,x3] t)).cell? ⟨w.heap.size,0,none⟩=some x0∧(w.alloc (.cells #[x0,x1,x2,x3] t)).cell? ⟨w.heap.size,1,none⟩=some x1 ∧
    (w.alloc (.cells #[x0,x1,x2,x3] t)).cell? ⟨w.heap.size,2,none⟩=some x2∧(w.alloc (.cells #[x0,x1,x2,x3] t)).cell? ⟨w.heap.size,3,none⟩=some x3:=by
  refine ⟨?_,?_,?_,?_⟩
  · rw [cell_of_row _ w.heap.size 0 _ t (0,0) (heap_alloc_new w _)];rfl
  · rw [cell_of_row _ w.heap.size 1 _ t (0,0) (heap_alloc_new w _)];rfl
  · rw [cell_of_row _ w.heap.size 2 _ t (0,0) (heap_alloc_new w _)];rfl
  · rw [cell_of_row _ w.heap.size 3 _ t (0,0) (heap_alloc_new w _)];rfl
theorem four_keep {w w':World} {b:Nat} {x0 x1 x2 x3:Value} (h:w.cell? ⟨b,0,none⟩=some x0∧w.cell? ⟨b,1,none⟩=some x1∧w.cell? ⟨b,2,none⟩=some x2∧w.cell? ⟨b,3,none⟩=some x3) (hlt:b<w.heap.size) (hb:Below w.heap.size w w') :
    w'.cell? ⟨b,0,none⟩=some x0∧w'.cell? ⟨b,1,none⟩=some x1∧w'.cell? ⟨b,2,none⟩=some x2∧w'.cell? ⟨b,3,none⟩=some x3 :=
  ⟨(hb.cell (p:=⟨b,0,none⟩) hlt).trans h.1,(hb.cell (p:=⟨b,1,none⟩) hlt).trans h.2.1,(hb.cell (p:=⟨b,2,none⟩) hlt).trans h.2.2.1,(hb.cell (p:=⟨b,3,none⟩) hlt).trans h.2.2.2⟩
set_option maxHeartbeats 4000000 in
theorem parseDesc_any (s:ByteArray) (hs:s.size≤maxLen) (w:World) :
    Calls Tryz.prog 133 #[.string s] w fun e w'=>DOut s.data.toList w e w':=by
  have hlen:s.data.toList.length=s.size:=by simp
  unfold maxLen at hs
  by_cases hbig:2000<s.size
  · have HE:Hid (pdE s.data.toList=5):=by rw [Hid,pdE,if_pos (by rw [hlen];exact hbig)]
    clear hlen
    go_enter Tryz.func133,Tryz.ntmps133
    go_wp2
    exact bodyPost_ret (v:=.tuple #[.agg #[.slice none 0 0,.bool false,.int .i64 0,.string ⟨#[]⟩],.int .i64 5]) (by simp [results,Tryz.results133,go_sem, *]) rfl (dout_err HE.out (by decide) ((Below.refl _ _).alloc (Nat.le_refl _) _))
  · have HR:=readDesc_any (w.heap.size+1) s 0 (Nat.zero_le _) (by omega) _ (Pd.first w s).cur
    have hl2:s.data.toList.length≤2000:=by rw [hlen];omega
    have hE:pdE s.data.toList=match readD s.data.toList with
      | none=>4
      | some d=>if largeD d then 5 else 0:=by rw [pdE,if_neg (by rw [hlen];exact hbig)]
    have HN:Hid (∀ w,_):=newCursor_any s
    have HA:Hid (∀ (q:Nat) (v:Value) (ts:List (Nat×List UInt8)) (w3:World),Hid (Pd w s q v ts w3)→Calls Tryz.prog 157 #[.pointer (some ⟨w.heap.size+1,0,none⟩)] w3 fun e w'=>e=.returned (.bool (decide (q=s.size)))∧Below w3.heap.size w3 w') :=
      fun q v ts w3 h=>atEnd_any (w.heap.size+1) s q w3 h.out.cur
    have hrd:=descOf_readD s.data.toList
    unfold DescPost at HR
    rw [List.drop_zero] at HR
    have hws:((w.alloc (.cells zeroD 177)).alloc (.cells #[.string s,.int .i64 0] 214)).heap.size=w.heap.size+2:=by simp
    cases hr:descOf s.data.toList with
    | none =>
      rw [hr] at hrd HR
      have HE:Hid (pdE s.data.toList=4):=by rw [Hid,hE,hrd]
      have HQ:Hid (Calls Tryz.prog 156 #[.pointer (some ⟨w.heap.size+1,0,none⟩)] ((w.alloc (.cells #[.slice none 0 0,.bool false,.int .i64 0,.string ⟨#[]⟩] 177)).alloc (.cells #[.string s,.int .i64 0] 214)) fun e w'=>e=.returned (.tuple #[.agg #[.slice none 0 0,.bool false,.int .i64 0,.string ⟨#[]⟩],.bool false])∧∃ q,Hid (Pd w s q (.slice none 0 0) [] w')) :=
        HR.mono fun e w' ⟨⟨he,q,_,hc⟩,hg⟩=>⟨he,q,(Pd.first w s).grown hg hc (World.ownsRow_nil _ _ _ _)⟩
      clear hE HR hr hlen hrd hws hl2 HA
      go_enter Tryz.func133,Tryz.ntmps133
      go_wp2_with (first
        | (go_at_call 155;refine ((HN.out) _).mono ?_;rintro e w1 ⟨rfl,rfl⟩)
        | (go_at_call 156;refine (HQ.out).mono ?_;rintro e w2 ⟨rfl,q,hP⟩;obtain ⟨c0,c1,c2,c3,f0,f1,f2,f3,hz,hz'⟩:=hP.out.cells))
      exact bodyPost_ret (v:=.tuple #[.agg #[.slice none 0 0,.bool false,.int .i64 0,.string ⟨#[]⟩],.int .i64 4]) (by simp [results,Tryz.results133,go_sem, *]) rfl (dout_err HE.out (by decide) ((hP.out.done _ _ _ _).2.alloc ((hP.out.done _ _ _ _).2.size) _))
    | some p =>
      obtain ⟨⟨ts,x⟩,r⟩:=p
      rw [hr] at hrd HR
      have HQ:Hid (Calls Tryz.prog 156 #[.pointer (some ⟨w.heap.size+1,0,none⟩)] ((w.alloc (.cells #[.slice none 0 0,.bool false,.int .i64 0,.string ⟨#[]⟩] 177)).alloc (.cells #[.string s,.int .i64 0] 214)) fun e w'=>∃ v,e=.returned (.tuple #[.agg #[v,.bool (voidB x),.int .i64 (retT x).1,.string ⟨(retT x).2.toArray⟩],.bool true])∧Hid (Pd w s (s.size - r.length) v ts w')) :=
        HR.mono fun e w' ⟨⟨v,he,ho,hc⟩,hg⟩=>⟨v,he,(Pd.first w s).grown hg hc (own_base ho (by rw [hws];omega))⟩
      have hrl:r.length≤s.size→r≠[]→decide (s.size - r.length=s.size)=false:=fun h1 h2=>by
        have:0<r.length:=List.length_pos_iff.2 h2
        simp;omega
      cases r with
      | cons c r2 =>
        have HE:Hid (pdE s.data.toList=4):=by rw [Hid,hE,hrd]
        obtain ⟨m,hm⟩:∃ m:Nat,s.size - (c::r2).length=m:=⟨_,rfl⟩
        have hne:decide (m=s.size)=false:=by
          rw [← hm]
          by_cases h0:s.size=0
          · have:s.data.toList=[]:=List.length_eq_zero_iff.1 (by rw [hlen];exact h0)
            rw [this] at hr
            simp [descOf,argsOf] at hr
          · simp;omega
        rw [hm] at HQ
        have HA':Hid (∀ v w3,Hid (Pd w s m v ts w3)→Calls Tryz.prog 157 #[.pointer (some ⟨w.heap.size+1,0,none⟩)] w3 fun e w'=>e=.returned (.bool false)∧Below w3.heap.size w3 w'):=fun v w3 h=>by have:=HA.out m v ts w3 h;rw [hne] at this;exact this
        clear hE HR hr hlen hrd hws hl2 HA hm hne hrl
        generalize (retT x).1=rd at *
        generalize (⟨(retT x).2.toArray⟩:ByteArray)=rn at *
        generalize voidB x=vb at *
        go_enter Tryz.func133,Tryz.ntmps133
        go_wp2_with (first
          | (go_at_call 155;refine ((HN.out) _).mono ?_;rintro e w1 ⟨rfl,rfl⟩)
          | (go_at_call 156;refine (HQ.out).mono ?_;rintro e w2 ⟨v,rfl,hP0⟩;obtain ⟨ao,cap,rfl⟩:=own_slice hP0.out.own;have hP:Hid (Pd w s m (.slice ao ts.length cap) ts (w2.alloc (.cells #[.slice ao ts.length cap,.bool vb,.int .i64 rd,.string rn] 177))):=hP0.out.keep ((Below.refl _ _).alloc (Nat.le_refl _) _);have hz2:=hP0.out.cells.2.2.2.2.2.2.2.2.2)
          | (go_at_call 157;refine (HA'.out _ _ hP).mono ?_;rintro e w3 ⟨rfl,hb3⟩;have hP3:Hid (Pd w s m (.slice ao ts.length cap) ts w3):=hP.out.keep hb3;have hs3:w2.heap.size<w3.heap.size:=(by have:=hb3.size;simp at this;omega);obtain ⟨t0,t1,t2,t3⟩:=four_keep (four_new w2 _ _ _ _ 177) (by simp) hb3;clear hb3;obtain ⟨d0,d1,d2,d3,g0,g1,g2,g3,hy,hy'⟩:=hP3.out.cells))
        exact bodyPost_ret (v:=.tuple #[.agg #[.slice none 0 0,.bool false,.int .i64 0,.string ⟨#[]⟩],.int .i64 4]) (by simp [results,Tryz.results133,go_sem, *]) rfl (dout_err HE.out (by decide) (hP3.out.done _ _ _ _).2)
      | nil =>
        have h0:s.size - ([]:List UInt8).length=s.size:=rfl
        rw [h0] at HQ
        have HA':Hid (∀ v w3,Hid (Pd w s s.size v ts w3)→Calls Tryz.prog 157 #[.pointer (some ⟨w.heap.size+1,0,none⟩)] w3 fun e w'=>e=.returned (.bool true)∧Below w3.heap.size w3 w'):=fun v w3 h=>by have:=HA.out s.size v ts w3 h;simp only [decide_true] at this;exact this
        have HD:Hid (∀ w,_):=isDeep_any (retT x).1 ⟨(retT x).2.toArray⟩
        have HK:Hid (∀ (v:Value) (w4:World),Hid (Pd w s s.size v ts w4)→Calls Tryz.prog 158 #[v,.func (.func 101) #[] #[]] w4 fun e w'=>e=.returned (.bool ((ts.map natT).any deepI))∧Below w4.heap.size w4 w') :=
          fun v w4 h=>contains_any v (ts.map natT) w4 (own_tys (by rw [List.length_map];exact h.out.own))
        have hLE:largeD (ts,x)=true→pdE s.data.toList=5:=fun h=>by rw [hE,hrd];simp [h]
        have hlg:largeD (ts,x)=(decide (20<ts.length)||decide (255<(retT x).1)||(ts.map natT).any deepI):=rfl
        by_cases h20:20<ts.length
        · have HE:Hid (pdE s.data.toList=5):=hLE (by rw [hlg];simp [h20])
          have hdl:decide (20<(ts.length:Int))=true:=by simp;omega
          clear hE HR hr hlen hrd hws hl2 HA hrl h0 hLE hlg HD HK
          generalize (retT x).1=rd at *
          generalize (⟨(retT x).2.toArray⟩:ByteArray)=rn at *
          generalize voidB x=vb at *
          go_enter Tryz.func133,Tryz.ntmps133
          go_wp2_with (first
            | (go_at_call 155;refine ((HN.out) _).mono ?_;rintro e w1 ⟨rfl,rfl⟩)
            | (go_at_call 156;refine (HQ.out).mono ?_;rintro e w2 ⟨v,rfl,hP0⟩;obtain ⟨ao,cap,rfl⟩:=own_slice hP0.out.own;have hP:Hid (Pd w s s.size (.slice ao ts.length cap) ts (w2.alloc (.cells #[.slice ao ts.length cap,.bool vb,.int .i64 rd,.string rn] 177))):=hP0.out.keep ((Below.refl _ _).alloc (Nat.le_refl _) _);have hz2:=hP0.out.cells.2.2.2.2.2.2.2.2.2)
            | (go_at_call 157;refine (HA'.out _ _ hP).mono ?_;rintro e w3 ⟨rfl,hb3⟩;have hP3:Hid (Pd w s s.size (.slice ao ts.length cap) ts w3):=hP.out.keep hb3;have hs3:w2.heap.size<w3.heap.size:=(by have:=hb3.size;simp at this;omega);obtain ⟨t0,t1,t2,t3⟩:=four_keep (four_new w2 _ _ _ _ 177) (by simp) hb3;clear hb3;obtain ⟨d0,d1,d2,d3,g0,g1,g2,g3,hy,hy'⟩:=hP3.out.cells))
          exact bodyPost_ret (v:=.tuple #[.agg #[.slice none 0 0,.bool false,.int .i64 0,.string ⟨#[]⟩],.int .i64 5]) (by simp [results,Tryz.results133,go_sem, *]) rfl (dout_err HE.out (by decide) (hP3.out.done _ _ _ _).2)
        · have hdl:decide (20<(ts.length:Int))=false:=by simp;omega
          by_cases hdp:255<(retT x).1
          · have HE:Hid (pdE s.data.toList=5):=hLE (by rw [hlg];simp [hdp])
            have hdd:decide ((255:Int)<(((retT x).1:Nat):Int))=true:=by simp;omega
            rw [hdd] at HD
            clear hE HR hr hlen hrd hws hl2 HA hrl h0 hLE hlg HK hdd hdp
            generalize (retT x).1=rd at *
            generalize (⟨(retT x).2.toArray⟩:ByteArray)=rn at *
            generalize voidB x=vb at *
            go_enter Tryz.func133,Tryz.ntmps133
            go_wp2_with (first
              | (go_at_call 155;refine ((HN.out) _).mono ?_;rintro e w1 ⟨rfl,rfl⟩)
              | (go_at_call 156;refine (HQ.out).mono ?_;rintro e w2 ⟨v,rfl,hP0⟩;obtain ⟨ao,cap,rfl⟩:=own_slice hP0.out.own;have hP:Hid (Pd w s s.size (.slice ao ts.length cap) ts (w2.alloc (.cells #[.slice ao ts.length cap,.bool vb,.int .i64 rd,.string rn] 177))):=hP0.out.keep ((Below.refl _ _).alloc (Nat.le_refl _) _);have hz2:=hP0.out.cells.2.2.2.2.2.2.2.2.2)
              | (go_at_call 157;refine (HA'.out _ _ hP).mono ?_;rintro e w3 ⟨rfl,hb3⟩;have hP3:Hid (Pd w s s.size (.slice ao ts.length cap) ts w3):=hP.out.keep hb3;have hs3:w2.heap.size<w3.heap.size:=(by have:=hb3.size;simp at this;omega);obtain ⟨t0,t1,t2,t3⟩:=four_keep (four_new w2 _ _ _ _ 177) (by simp) hb3;clear hb3;obtain ⟨d0,d1,d2,d3,g0,g1,g2,g3,hy,hy'⟩:=hP3.out.cells)
              | (go_at_call 101;refine ((HD.out) _).mono ?_;rintro e w4 ⟨rfl,hb4⟩;have hP4:Hid (Pd w s s.size (.slice ao ts.length cap) ts w4):=hP3.out.keep hb4;have hs4:w2.heap.size<w4.heap.size:=(by have:=hb4.size;omega);obtain ⟨y0,y1,y2,y3⟩:=four_keep ⟨t0,t1,t2,t3⟩ hs3 hb4;clear hb4;obtain ⟨j0,j1,j2,j3,k0,k1,k2,k3,hx,hx'⟩:=hP4.out.cells))
            exact bodyPost_ret (v:=.tuple #[.agg #[.slice none 0 0,.bool false,.int .i64 0,.string ⟨#[]⟩],.int .i64 5]) (by simp [results,Tryz.results133,go_sem, *]) rfl (dout_err HE.out (by decide) (hP4.out.done _ _ _ _).2)
          · have hdd:decide ((255:Int)<(((retT x).1:Nat):Int))=false:=by simp;omega
            rw [hdd] at HD
            cases hany:(ts.map natT).any deepI with
            | true =>
              have HE:Hid (pdE s.data.toList=5):=hLE (by rw [hlg,hany];simp)
              rw [hany] at HK
              clear hE HR hr hlen hrd hws hl2 HA hrl h0 hLE hlg hdd hdp hany
              generalize (retT x).1=rd at *
              generalize (⟨(retT x).2.toArray⟩:ByteArray)=rn at *
              generalize voidB x=vb at *
              go_enter Tryz.func133,Tryz.ntmps133
              go_wp2_with (first
                | (go_at_call 155;refine ((HN.out) _).mono ?_;rintro e w1 ⟨rfl,rfl⟩)
                | (go_at_call 156;refine (HQ.out).mono ?_;rintro e w2 ⟨v,rfl,hP0⟩;obtain ⟨ao,cap,rfl⟩:=own_slice hP0.out.own;have hP:Hid (Pd w s s.size (.slice ao ts.length cap) ts (w2.alloc (.cells #[.slice ao ts.length cap,.bool vb,.int .i64 rd,.string rn] 177))):=hP0.out.keep ((Below.refl _ _).alloc (Nat.le_refl _) _);have hz2:=hP0.out.cells.2.2.2.2.2.2.2.2.2)
                | (go_at_call 157;refine (HA'.out _ _ hP).mono ?_;rintro e w3 ⟨rfl,hb3⟩;have hP3:Hid (Pd w s s.size (.slice ao ts.length cap) ts w3):=hP.out.keep hb3;have hs3:w2.heap.size<w3.heap.size:=(by have:=hb3.size;simp at this;omega);obtain ⟨t0,t1,t2,t3⟩:=four_keep (four_new w2 _ _ _ _ 177) (by simp) hb3;clear hb3;obtain ⟨d0,d1,d2,d3,g0,g1,g2,g3,hy,hy'⟩:=hP3.out.cells)
                | (go_at_call 101;refine ((HD.out) _).mono ?_;rintro e w4 ⟨rfl,hb4⟩;have hP4:Hid (Pd w s s.size (.slice ao ts.length cap) ts w4):=hP3.out.keep hb4;have hs4:w2.heap.size<w4.heap.size:=(by have:=hb4.size;omega);obtain ⟨y0,y1,y2,y3⟩:=four_keep ⟨t0,t1,t2,t3⟩ hs3 hb4;clear hb4;obtain ⟨j0,j1,j2,j3,k0,k1,k2,k3,hx,hx'⟩:=hP4.out.cells)
                | (go_at_call 158;refine ((HK.out) _ _ hP4).mono ?_;rintro e w5 ⟨rfl,hb5⟩;have hP5:Hid (Pd w s s.size (.slice ao ts.length cap) ts w5):=hP4.out.keep hb5;obtain ⟨z0,z1,z2,z3⟩:=four_keep ⟨y0,y1,y2,y3⟩ hs4 hb5;clear hb5;obtain ⟨l0,l1,l2,l3,m0,m1,m2,m3,hv,hv'⟩:=hP5.out.cells))
              exact bodyPost_ret (v:=.tuple #[.agg #[.slice none 0 0,.bool false,.int .i64 0,.string ⟨#[]⟩],.int .i64 5]) (by simp [results,Tryz.results133,go_sem, *]) rfl (dout_err HE.out (by decide) (hP5.out.done _ _ _ _).2)
            | false =>
              have HG:Hid (largeD (ts,x)=false):=by rw [Hid,hlg,hany];simp;omega
              have HO:Hid (∀ (v:Value) (w':World),w'.ownsRow w.heap.size 40 2 v ts.length (flatT (ts.map natT))→Below w.heap.size w w'→DOut s.data.toList w (.returned (.tuple #[.agg #[v,.bool (voidB x),.int .i64 (retT x).1,.string ⟨(retT x).2.toArray⟩],.int .i64 0])) w') :=
                fun v w' ho hb=>dout_ok hrd hl2 HG.out ho hb
              rw [hany] at HK
              clear hE HR hr hlen hrd hws hl2 HA hrl h0 hLE hlg hdd hdp hany HG
              generalize (retT x).1=rd at *
              generalize (⟨(retT x).2.toArray⟩:ByteArray)=rn at *
              generalize voidB x=vb at *
              go_enter Tryz.func133,Tryz.ntmps133
              go_wp2_with (first
                | (go_at_call 155;refine ((HN.out) _).mono ?_;rintro e w1 ⟨rfl,rfl⟩)
                | (go_at_call 156;refine (HQ.out).mono ?_;rintro e w2 ⟨v,rfl,hP0⟩;obtain ⟨ao,cap,rfl⟩:=own_slice hP0.out.own;have hP:Hid (Pd w s s.size (.slice ao ts.length cap) ts (w2.alloc (.cells #[.slice ao ts.length cap,.bool vb,.int .i64 rd,.string rn] 177))):=hP0.out.keep ((Below.refl _ _).alloc (Nat.le_refl _) _);have hz2:=hP0.out.cells.2.2.2.2.2.2.2.2.2)
                | (go_at_call 157;refine (HA'.out _ _ hP).mono ?_;rintro e w3 ⟨rfl,hb3⟩;have hP3:Hid (Pd w s s.size (.slice ao ts.length cap) ts w3):=hP.out.keep hb3;have hs3:w2.heap.size<w3.heap.size:=(by have:=hb3.size;simp at this;omega);obtain ⟨t0,t1,t2,t3⟩:=four_keep (four_new w2 _ _ _ _ 177) (by simp) hb3;clear hb3;obtain ⟨d0,d1,d2,d3,g0,g1,g2,g3,hy,hy'⟩:=hP3.out.cells)
                | (go_at_call 101;refine ((HD.out) _).mono ?_;rintro e w4 ⟨rfl,hb4⟩;have hP4:Hid (Pd w s s.size (.slice ao ts.length cap) ts w4):=hP3.out.keep hb4;have hs4:w2.heap.size<w4.heap.size:=(by have:=hb4.size;omega);obtain ⟨y0,y1,y2,y3⟩:=four_keep ⟨t0,t1,t2,t3⟩ hs3 hb4;clear hb4;obtain ⟨j0,j1,j2,j3,k0,k1,k2,k3,hx,hx'⟩:=hP4.out.cells)
                | (go_at_call 158;refine ((HK.out) _ _ hP4).mono ?_;rintro e w5 ⟨rfl,hb5⟩;have hP5:Hid (Pd w s s.size (.slice ao ts.length cap) ts w5):=hP4.out.keep hb5;obtain ⟨z0,z1,z2,z3⟩:=four_keep ⟨y0,y1,y2,y3⟩ hs4 hb5;clear hb5;obtain ⟨l0,l1,l2,l3,m0,m1,m2,m3,hv,hv'⟩:=hP5.out.cells))
              exact bodyPost_ret (v:=.tuple #[.agg #[.slice ao ts.length cap,.bool vb,.int .i64 rd,.string rn],.int .i64 0]) (by simp [results,Tryz.results133,go_sem, *]) rfl (HO.out _ _ (hP5.out.done _ _ _ _).1 (hP5.out.done _ _ _ _).2)
end Go.Proofs.YtfnmmpkhopochaaGreat
