import Derived.Test.YtlohdfpinmdljaaGreatDoorCurB
import Derived.Deep.LoopGhost
import Derived.WalkMore
set_option maxRecDepth 100000
namespace Go.Proofs.YtlohdfpinmdljaaGreatDoor
open Go.RowKit
theorem nxt_lt (s:ByteArray) (i:Nat) (m:UInt8) (h:i<s.size):nxt s i m=decide (s[i]=m):=by
  unfold nxt
  rw [drop_cons s i h,List.head?_cons,Bool.eq_iff_iff]
  simp
theorem nxt_end (s:ByteArray) (i:Nat) (m:UInt8) (h:s.size≤i):nxt s i m=false:=by
  unfold nxt
  rw [drop_end s i h];rfl
theorem nxt_true {s:ByteArray} {i:Nat} {m:UInt8} (h:nxt s i m=true):i<s.size:=by
  by_cases q:i<s.size
  · exact q
  · rw [nxt_end s i m (by omega)] at h;simp at h
theorem nameP_le (l:List UInt8):nameP l≤l.length:=by
  unfold nameP
  split
  · rename_i a b h
    split
    · rw [(semi_eq h).1];simp
    · omega
  · omega
structure Rt (W:World) (b:Nat) (s:ByteArray) (q:Nat) (wr:World):Prop where
  cur:Cur wr b s q
  r:wr.heap[W.heap.size]?=some (.cells #[.int .i64 0,.string ⟨#[]⟩] 71 (0,0))
  gr:W.grownBy wr (some b)
  hb:b<W.heap.size
  le:q≤s.size
theorem Rt.step {W wr w1:World} {b:Nat} {s:ByteArray} {q q':Nat} (h:Rt W b s q wr) (hc:Cur w1 b s q') (hg:wr.grownBy w1 (some b)) (hq:q'≤s.size):Rt W b s q' w1 :=
  ⟨hc,by rw [hg.block _ (Array.getElem?_eq_some_iff.1 h.r).1 (by have:=h.hb;simp;omega)];exact h.r,grownBy_trans h.gr hg (fun _ e=>.inl e),h.hb,hq⟩
theorem Rt.cells {W wr:World} {b:Nat} {s:ByteArray} {q:Nat} (h:Rt W b s q wr) :
    wr.cell? ⟨W.heap.size,0,none⟩=some (.int .i64 0)∧wr.cell? ⟨W.heap.size,1,none⟩=some (.string ⟨#[]⟩)∧wr.frozen? ⟨W.heap.size,0,none⟩=false∧wr.frozen? ⟨W.heap.size,1,none⟩=false:=by
  refine ⟨?_,?_,?_,?_⟩
  · rw [cell_of_row _ W.heap.size 0 _ 71 (0,0) h.r];rfl
  · rw [cell_of_row _ W.heap.size 1 _ 71 (0,0) h.r];rfl
  all_goals simp [World.frozen?,h.r]
theorem Rt.done {W wr:World} {b:Nat} {s:ByteArray} {q:Nat} (h:Rt W b s q wr) (u v:Value) :
    Cur ((wr.setCell ⟨W.heap.size,0,none⟩ u).setCell ⟨W.heap.size,1,none⟩ v) b s q∧W.grownBy ((wr.setCell ⟨W.heap.size,0,none⟩ u).setCell ⟨W.heap.size,1,none⟩ v) (some b):=by
  have hb:=h.hb
  constructor
  · unfold Cur
    rw [heap_setCell_other _ ⟨W.heap.size,1,none⟩ b v (by simp;omega),heap_setCell_other _ ⟨W.heap.size,0,none⟩ b u (by simp;omega)]
    exact h.cur
  · refine grownBy_trans (grownBy_trans h.gr (grownBy_set wr W.heap.size 0 u) ?_) (grownBy_set _ W.heap.size 1 v) ?_
    · intro k e;right;simp at e;omega
    · intro k e;right;simp at e;omega
def TypePost (s:ByteArray) (pl b:Nat) (e:Ending) (w':World):Prop:=match readT (s.data.toList.drop pl) with
  | some (t,r)=>e=.returned (.tuple #[.agg #[.int .i64 t.1,.string ⟨t.2.toArray⟩],.bool true])∧Cur w' b s (s.size - r.length)
  | none=>e=.returned (.tuple #[.agg #[.int .i64 0,.string ⟨#[]⟩],.bool false])∧∃ q,q≤s.size∧Cur w' b s q
theorem tpost_none {s:ByteArray} {pl b q:Nat} {w':World} (h:readT (s.data.toList.drop pl)=none) (hq:q≤s.size) (hc:Cur w' b s q):TypePost s pl b (.returned (.tuple #[.agg #[.int .i64 0,.string ⟨#[]⟩],.bool false])) w':=by
  unfold TypePost;rw [h];exact ⟨rfl,q,hq,hc⟩
theorem tpost_some {s:ByteArray} {pl b q:Nat} {k:Nat} {nm r:List UInt8} {w':World} (h:readT (s.data.toList.drop pl)=some ((k,nm),r)) (hp:q=s.size - r.length) (hc:Cur w' b s q) :
    TypePost s pl b (.returned (.tuple #[.agg #[.int .i64 k,.string ⟨nm.toArray⟩],.bool true])) w':=by
  unfold TypePost;rw [h];rw [hp] at hc;exact ⟨rfl,hc⟩
set_option maxHeartbeats 4000000 in
theorem readType_any (b:Nat) (s:ByteArray) (pl:Nat) (hpl:pl≤s.size) (hs:s.size≤1000000) (W:World) (hc:Cur W b s pl) :
    Calls Tryz.prog 70 #[.pointer (some ⟨b,0,none⟩)] W fun e w'=>TypePost s pl b e w'∧W.grownBy w' (some b):=by
  have HS:Hid (∀ (m:UInt8) (q:Nat) (w:World),Hid (Rt W b s q w)→Calls Tryz.prog 69 #[.pointer (some ⟨b,0,none⟩),.string ⟨#[m]⟩] w fun e w'=>e=.returned (.bool (nxt s q m))∧Hid (Rt W b s (if nxt s q m then q+1 else q) w')) :=
    fun m q w h=>(skip_any b s q m h.out.le hs w h.out.cur).mono fun e w' ⟨he,hc,hg⟩=>⟨he,h.out.step hc hg (by
      have:=h.out.le
      split
      · rename_i e;have:=nxt_true e;omega
      · exact this)⟩
  have HN:Hid (∀ (q:Nat) (w:World),Hid (Rt W b s q w)→Calls Tryz.prog 128 #[.pointer (some ⟨b,0,none⟩)] w fun e w'=>e=.returned (.tuple #[.string ⟨(nameS (s.data.toList.drop q)).toArray⟩,.bool (nameB (s.data.toList.drop q))])∧Hid (Rt W b s (q+nameP (s.data.toList.drop q)) w')) :=
    fun q w h=>(readName_any b s q h.out.le hs w h.out.cur).mono fun e w' ⟨he,hc,hg⟩=>⟨he,h.out.step hc hg (by
      have h1:=h.out.le
      have h2:=nameP_le (s.data.toList.drop q)
      simp at h2;omega)⟩
  have H0:Hid (Rt W b s pl (W.alloc (.cells #[.int .i64 0,.string ⟨#[]⟩] 71))) :=
    ⟨hc.keep ((Below.refl _ _).alloc (Nat.le_refl _) _),heap_alloc_new W _,grownBy_below ((Below.refl _ _).alloc (Nat.le_refl _) _),hc.cells.2.2.2,hpl⟩
  have hsz:s.data.toList.length=s.size:=by simp
  have HSZ:Hid _:=hsz
  clear hsz hc
  go_enter Tryz.func70,Tryz.ntmps70
  go_wp2
  go_loopw [4] (fun p wr=>∃ j:Nat,p=.int .i64 j∧pl+j≤s.size∧Hid (Rt W b s (pl+j) wr) ∧
      Hid (bracks (s.data.toList.drop pl)=((bracks (s.data.toList.drop (pl+j))).1+j,(bracks (s.data.toList.drop (pl+j))).2))) (fun p _=>s.size - (intOf p).toNat)
  case atStart=>exact ⟨0,rfl,hpl,H0,rfl⟩
  case round =>
    clear H0
    obtain ⟨j,rfl,hj,hR,hbr⟩:=hrel
    by_cases hlt:pl+j<s.size
    · by_cases h91:s[pl+j]=91
      · have q91:nxt s (pl+j) 91=true:=by rw [nxt_lt s _ _ hlt];simp [h91]
        have HB:Hid (bracks (s.data.toList.drop pl)=((bracks (s.data.toList.drop (pl+(j+1)))).1+(j+1),(bracks (s.data.toList.drop (pl+(j+1)))).2)):=by
          rw [Hid,hbr.out,bracks_step s (pl+j) hlt h91]
          simp only [Prod.mk.injEq]
          exact ⟨by rw [show pl+j+1=pl+(j+1) by omega];omega,by rw [show pl+j+1=pl+(j+1) by omega]⟩
        clear hbr h91
        go_wp2_with (go_at_call 69;refine (HS.out _ _ _ hR).mono ?_;rintro e w1 ⟨rfl,R1⟩;rw [q91,if_pos rfl] at R1)
        go_roundw
        case rel=>exact ⟨j+1,by go_num,by omega,R1,HB⟩
        case measure=>simp [intOf];omega
      · have hb0:bracks (s.data.toList.drop pl)=(j,s.data.toList.drop (pl+j)):=by rw [hbr.out,bracks_stop s (pl+j) hlt h91,Nat.zero_add]
        rw [drop_cons s (pl+j) hlt] at hb0
        have q91:nxt s (pl+j) 91=false:=by rw [nxt_lt s _ _ hlt];simp [h91]
        by_cases h73:s[pl+j]=73
        · have q73:nxt s (pl+j) 73=true:=by rw [nxt_lt s _ _ hlt];simp [h73]
          have HP:Hid _:=read_int (by rw [h73] at hb0;exact hb0)
          have HQ:Hid (pl+j+1=s.size - (s.data.toList.drop (pl+j+1)).length):=by rw [Hid,List.length_drop,HSZ.out];omega
          clear hbr h91 h73 hb0
          go_wp2_with (go_at_call 69;refine (HS.out _ _ _ hR).mono ?_;clear hR;rintro e w1 ⟨rfl,hR⟩;first|rw [q91,if_neg Bool.false_ne_true] at hR|rw [q73,if_pos rfl] at hR;obtain ⟨c0,c1,c2,c3⟩:=hR.out.cells)
          refine bodyPost_ret (v:=.tuple #[.agg #[.int .i64 j,.string ⟨#[]⟩],.bool true]) (by simp [results,Tryz.results70,go_sem, *]) rfl ⟨tpost_some HP.out HQ.out (hR.out.done _ _).1,(hR.out.done _ _).2⟩
        · have q73:nxt s (pl+j) 73=false:=by rw [nxt_lt s _ _ hlt];simp [h73]
          by_cases h76:s[pl+j]=76
          · have q76:nxt s (pl+j) 76=true:=by rw [nxt_lt s _ _ hlt];simp [h76]
            rw [h76] at hb0
            cases hsm:semi (s.data.toList.drop (pl+j+1)) with
            | none =>
              have e2:nameB (s.data.toList.drop (pl+j+1))=false:=by simp [nameB,hsm]
              have HP:Hid _:=read_open hb0 hsm
              clear hbr h91 h73 h76 hb0 hsm
              go_wp2_with (first
                | (go_at_call 69;refine (HS.out _ _ _ hR).mono ?_;clear hR;rintro e w1 ⟨rfl,hR⟩;first|rw [q91,if_neg Bool.false_ne_true] at hR|rw [q73,if_neg Bool.false_ne_true] at hR|rw [q76,if_pos rfl] at hR;obtain ⟨c0,c1,c2,c3⟩:=hR.out.cells)
                | (go_at_call 128;refine (HN.out _ _ hR).mono ?_;clear hR;rintro e w1 ⟨rfl,hR⟩;rw [e2];obtain ⟨c0,c1,c2,c3⟩:=hR.out.cells))
              refine bodyPost_ret (v:=.tuple #[.agg #[.int .i64 0,.string ⟨#[]⟩],.bool false]) (by simp [results,Tryz.results70,go_sem, *]) rfl ⟨tpost_none HP.out hR.out.le (hR.out.done _ _).1,(hR.out.done _ _).2⟩
            | some p =>
              obtain ⟨x,y⟩:=p
              cases hv:validL x with
              | false =>
                have e2:nameB (s.data.toList.drop (pl+j+1))=false:=by simp [nameB,hsm,hv]
                have HP:Hid _:=read_bad hb0 hsm hv
                clear hbr h91 h73 h76 hb0 hsm hv
                go_wp2_with (first
                  | (go_at_call 69;refine (HS.out _ _ _ hR).mono ?_;clear hR;rintro e w1 ⟨rfl,hR⟩;first|rw [q91,if_neg Bool.false_ne_true] at hR|rw [q73,if_neg Bool.false_ne_true] at hR|rw [q76,if_pos rfl] at hR;obtain ⟨c0,c1,c2,c3⟩:=hR.out.cells)
                  | (go_at_call 128;refine (HN.out _ _ hR).mono ?_;clear hR;rintro e w1 ⟨rfl,hR⟩;rw [e2];obtain ⟨c0,c1,c2,c3⟩:=hR.out.cells))
                refine bodyPost_ret (v:=.tuple #[.agg #[.int .i64 0,.string ⟨#[]⟩],.bool false]) (by simp [results,Tryz.results70,go_sem, *]) rfl ⟨tpost_none HP.out hR.out.le (hR.out.done _ _).1,(hR.out.done _ _).2⟩
              | true =>
                have e1:nameS (s.data.toList.drop (pl+j+1))=x:=by simp [nameS,hsm,hv]
                have e2:nameB (s.data.toList.drop (pl+j+1))=true:=by simp [nameB,hsm,hv]
                have e3:nameP (s.data.toList.drop (pl+j+1))=x.length+1:=by simp [nameP,hsm,hv]
                have HP:Hid _:=read_cls hb0 hsm hv
                have HQ:Hid (pl+j+1+(x.length+1)=s.size - y.length):=by
                  have h1:(s.data.toList.drop (pl+j+1)).length=s.size - (pl+j+1):=by rw [List.length_drop,HSZ.out]
                  rw [(semi_eq hsm).1,List.length_append,List.length_cons] at h1
                  rw [Hid];omega
                clear hbr h91 h73 h76 hb0 hsm hv
                go_wp2_with (first
                  | (go_at_call 69;refine (HS.out _ _ _ hR).mono ?_;clear hR;rintro e w1 ⟨rfl,hR⟩;first|rw [q91,if_neg Bool.false_ne_true] at hR|rw [q73,if_neg Bool.false_ne_true] at hR|rw [q76,if_pos rfl] at hR;obtain ⟨c0,c1,c2,c3⟩:=hR.out.cells)
                  | (go_at_call 128;refine (HN.out _ _ hR).mono ?_;clear hR;rintro e w1 ⟨rfl,hR⟩;rw [e2,e1];rw [e3] at hR;obtain ⟨c0,c1,c2,c3⟩:=hR.out.cells))
                refine bodyPost_ret (v:=.tuple #[.agg #[.int .i64 j,.string ⟨x.toArray⟩],.bool true]) (by simp [results,Tryz.results70,go_sem, *]) rfl ⟨tpost_some HP.out HQ.out (hR.out.done _ _).1,(hR.out.done _ _).2⟩
          · have q76:nxt s (pl+j) 76=false:=by rw [nxt_lt s _ _ hlt];simp [h76]
            have HP:Hid _:=read_other hb0 h73 h76
            clear hbr h91 h73 h76 hb0
            go_wp2_with (go_at_call 69;refine (HS.out _ _ _ hR).mono ?_;clear hR;rintro e w1 ⟨rfl,hR⟩;first|rw [q91,if_neg Bool.false_ne_true] at hR|rw [q73,if_neg Bool.false_ne_true] at hR|rw [q76,if_neg Bool.false_ne_true] at hR;obtain ⟨c0,c1,c2,c3⟩:=hR.out.cells)
            refine bodyPost_ret (v:=.tuple #[.agg #[.int .i64 0,.string ⟨#[]⟩],.bool false]) (by simp [results,Tryz.results70,go_sem, *]) rfl ⟨tpost_none HP.out hR.out.le (hR.out.done _ _).1,(hR.out.done _ _).2⟩
    · have q91:nxt s (pl+j) 91=false:=nxt_end _ _ _ (by omega)
      have q73:nxt s (pl+j) 73=false:=nxt_end _ _ _ (by omega)
      have q76:nxt s (pl+j) 76=false:=nxt_end _ _ _ (by omega)
      have HP:Hid _:=read_nil (l:=s.data.toList.drop pl) (j:=j) (by rw [hbr.out,drop_end s (pl+j) (by omega)];simp [bracks])
      clear hbr
      go_wp2_with (go_at_call 69;refine (HS.out _ _ _ hR).mono ?_;clear hR;rintro e w1 ⟨rfl,hR⟩;first|rw [q91,if_neg Bool.false_ne_true] at hR|rw [q73,if_neg Bool.false_ne_true] at hR|rw [q76,if_neg Bool.false_ne_true] at hR;obtain ⟨c0,c1,c2,c3⟩:=hR.out.cells)
      refine bodyPost_ret (v:=.tuple #[.agg #[.int .i64 0,.string ⟨#[]⟩],.bool false]) (by simp [results,Tryz.results70,go_sem, *]) rfl ⟨tpost_none HP.out hR.out.le (hR.out.done _ _).1,(hR.out.done _ _).2⟩
def tyC (t:Int×ByteArray):List Value:=[.int .i64 t.1,.string t.2]
def flatT (ts:List (Int×ByteArray)):List Value:=ts.flatMap tyC
def natT (t:Nat×List UInt8):Int×ByteArray:=((t.1:Int),⟨t.2.toArray⟩)
theorem flatT_at (ts:List (Int×ByteArray)) (k:Nat) (t:Int×ByteArray) (h:ts[k]?=some t):(flatT ts)[k * 2]?=some (.int .i64 t.1)∧(flatT ts)[k * 2+1]?=some (.string t.2):=by
  induction ts generalizing k with
  | nil=>simp at h
  | cons u ts ih =>
    have e:flatT (u::ts)=.int .i64 u.1::.string u.2::flatT ts:=by simp [flatT,tyC]
    rw [e]
    cases k with
    | zero=>simp at h;subst h;exact ⟨rfl,rfl⟩
    | succ k =>
      simp at h
      obtain ⟨h1,h2⟩:=ih k h
      rw [show (k+1) * 2=k * 2+1+1 by omega]
      simp only [List.getElem?_cons_succ]
      exact ⟨h1,h2⟩
def IsTys (w:World) (v:Value) (ts:List (Int×ByteArray)):Prop :=
  ∃ ao cap,v=.slice ao ts.length cap∧ts.length≤cap∧cap≤maxLen ∧
    (ts≠[]→∃ bk o,ao=some ⟨bk,o,none⟩∧bk<w.heap.size∧∀ k t,ts[k]?=some t→w.cell? ⟨bk,o+k * 2,none⟩=some (.int .i64 t.1)∧w.cell? ⟨bk,o+k * 2+1,none⟩=some (.string t.2))
theorem own_tys {w:World} {base:Nat} {v:Value} {ts:List (Int×ByteArray)} (h:w.ownsRow base 71 2 v ts.length (flatT ts)):IsTys w v ts:=by
  have h':=h
  rcases h.2 with ⟨rfl,h0⟩|⟨g,cap,cur,rfl,hb,hg,hn,hm,_,_⟩
  · have:ts=[]:=List.length_eq_zero_iff.1 h0
    subst this
    exact ⟨none,0,rfl,Nat.le_refl _,by unfold maxLen;omega,fun h=>absurd rfl h⟩
  · refine ⟨_,cap,rfl,hn,hm,fun _=>⟨g,0,rfl,(Array.getElem?_eq_some_iff.1 hg).1,fun k t hk=>?_⟩⟩
    have hlt:k<ts.length:=(List.getElem?_eq_some_iff.1 hk).1
    obtain ⟨e1,e2⟩:=flatT_at ts k t hk
    rw [Nat.zero_add]
    exact ⟨by rw [h'.cellAt (k * 2) (by omega)];exact e1,by rw [h'.cellAt (k * 2+1) (by omega)];exact e2⟩
def raf (l:List UInt8):Option (List (Nat×List UInt8)×List UInt8):=readArgs (l.length+1) l
theorem readArgs_fuel (f:Nat) (l:List UInt8) (h:l.length<f):readArgs f l=raf l:=by
  unfold raf
  generalize hn:l.length=n at *
  induction n using Nat.strongRecOn generalizing f l with
  | _ n ih =>
    cases f with
    | zero=>omega
    | succ f =>
      cases l with
      | nil=>simp [readArgs]
      | cons c l =>
        rw [readArgs,readArgs]
        split
        · rfl
        · cases e:readT (c::l) with
          | none=>rfl
          | some p =>
            obtain ⟨t,r⟩:=p
            have hr:=readT_less e
            simp only
            rw [ih r.length (by omega) f r rfl (by omega),ih r.length (by omega) n r rfl (by omega)]
theorem raf_nil:raf []=none:=rfl
theorem raf_end (l:List UInt8):raf (41::l)=some ([],l):=by simp [raf,readArgs]
theorem raf_step {c:UInt8} {l r:List UInt8} {t:Nat×List UInt8} (hc:c≠41) (h:readT (c::l)=some (t,r)):raf (c::l)=(raf r).map (fun p=>(t::p.1,p.2)):=by
  have hr:=readT_less h
  rw [raf,readArgs,if_neg hc,h]
  simp only
  rw [readArgs_fuel _ r (by simpa using hr)]
  cases raf r <;> rfl
theorem raf_bad {c:UInt8} {l:List UInt8} (hc:c≠41) (h:readT (c::l)=none):raf (c::l)=none:=by
  rw [raf,readArgs,if_neg hc,h]
theorem read_drop {l:List UInt8} {q:Nat} {t:Nat×List UInt8} {r:List UInt8} (h:readT (l.drop q)=some (t,r)):r=l.drop (l.length - r.length)∧q<l.length - r.length∧r.length≤l.length:=by
  have hw:=(write_read h).1
  have hl:=readT_less h
  rw [List.length_drop] at hl
  refine ⟨?_,by omega,by omega⟩
  have e2:l=l.take q++(writeT t++r):=by rw [← hw,List.take_append_drop]
  have e3:l.length - r.length=(l.take q++writeT t).length:=by
    have:=congrArg List.length e2
    simp only [List.length_append] at this ⊢
    omega
  rw [e3]
  have key:∀ a b r:List UInt8,(a++(b++r)).drop ((a++b).length)=r:=fun a b r=>by rw [← List.append_assoc,List.drop_left]
  have k2:=key (l.take q) (writeT t) r
  rw [← e2] at k2
  exact k2.symm
def argsOf:List UInt8→Option (List (Nat×List UInt8)×List UInt8)
  | 40::r=>raf r
  | _=>none
theorem Tryz.info71:(Tryz.prog.info? 71).map (fun i=>(i.zero,i.size,i.bytes))=some (some (.agg #[.int .i64 0,.string ⟨#[]⟩]),2,24):=by kernel_rfl
structure Ra (W:World) (b:Nat) (s:ByteArray) (q:Nat) (v:Value) (ts:List (Nat×List UInt8)) (wr:World):Prop where
  cur:Cur wr b s q
  own:wr.ownsRow W.heap.size 71 2 v ts.length (flatT (ts.map natT))
  gr:W.grownBy wr (some b)
  hb:b<W.heap.size
  le:q≤s.size
  tl:ts.length≤q
theorem Ra.step {W wr w1:World} {b:Nat} {s:ByteArray} {q q':Nat} {v:Value} {ts:List (Nat×List UInt8)} (h:Ra W b s q v ts wr) (hc:Cur w1 b s q') (hg:wr.grownBy w1 (some b)) (hq:q'≤s.size) (hqq:q≤q'):Ra W b s q' v ts w1 :=
  ⟨hc,h.own.kept hg (.inr (fun e=>by have:=(h.own.lt b e).1;have:=h.hb;omega)),grownBy_trans h.gr hg (fun _ e=>.inl e),h.hb,hq,Nat.le_trans h.tl hqq⟩
theorem Ra.app {W wr w2:World} {b:Nat} {s:ByteArray} {q:Nat} {v v':Value} {ts:List (Nat×List UInt8)} {k:Nat} {nm:List UInt8} (o1 o2:Obj) (h:Ra W b s q v ts wr) (hlt:ts.length<q)
    (ho:w2.ownsRow W.heap.size 71 2 v' (ts.length+1) (flatT (ts.map natT)++[.int .i64 k,.string ⟨nm.toArray⟩])) (hg:((wr.alloc o1).alloc o2).grownBy w2 v.ownBlock):Ra W b s q v' (ts++[(k,nm)]) w2:=by
  have hbel:Below wr.heap.size wr ((wr.alloc o1).alloc o2):=((Below.refl _ _).alloc (Nat.le_refl _) _).alloc (by simp) _
  have hbn:some b≠v.ownBlock:=fun e=>by have:=(h.own.lt b e.symm).1;have:=h.hb;omega
  refine ⟨?_,?_,?_,h.hb,h.le,by simp;omega⟩
  · have hc:=h.cur.keep hbel
    unfold Cur at *
    rw [hg.block b (Array.getElem?_eq_some_iff.1 hc).1 hbn]
    exact hc
  · have e:flatT ((ts++[(k,nm)]).map natT)=flatT (ts.map natT)++[.int .i64 k,.string ⟨nm.toArray⟩]:=by simp [flatT,tyC,natT]
    rw [e,List.length_append]
    exact ho
  · exact grownBy_trans (grownBy_trans h.gr (grownBy_below hbel (r:=some b)) (fun _ e=>.inl e)) hg (fun x e=>.inr (h.own.lt x e).1)
theorem two_new (w:World) (x y:Value) (t:TypeId):∀ j u,[x,y][j]?=some u→(w.alloc (.cells #[x,y] t)).cell? ((⟨w.heap.size,0,none⟩:Addr).add j)=some u:=by
  intro j u hj
  match j,hj with
  | 0,hj=>simp at hj;subst hj;rw [Addr.add_lit,cell_of_row _ w.heap.size 0 _ t (0,0) (heap_alloc_new w _)];rfl
  | 1,hj=>simp at hj;subst hj;rw [Addr.add_lit,cell_of_row _ w.heap.size 1 _ t (0,0) (heap_alloc_new w _)];rfl
theorem two_new2 (w:World) (o:Obj) (x y:Value) (t:TypeId):∀ j u,[x,y][j]?=some u→((w.alloc o).alloc (.cells #[x,y] t)).cell? ((⟨w.heap.size+1,0,none⟩:Addr).add j)=some u:=by
  intro j u hj
  have h:=two_new (w.alloc o) x y t j u hj
  rw [show (w.alloc o).heap.size=w.heap.size+1 by simp] at h
  exact h
def ArgPost (s:ByteArray) (pl b:Nat) (W:World) (e:Ending) (w':World):Prop:=match argsOf (s.data.toList.drop pl) with
  | some (ts,r)=>∃ v,e=.returned (.tuple #[v,.bool true])∧w'.ownsRow W.heap.size 71 2 v ts.length (flatT (ts.map natT))∧Cur w' b s (s.size - r.length)
  | none=>e=.returned (.tuple #[.slice none 0 0,.bool false])∧∃ q,q≤s.size∧Cur w' b s q
theorem apost_none {s:ByteArray} {pl b q:Nat} {W w':World} (h:argsOf (s.data.toList.drop pl)=none) (hq:q≤s.size) (hc:Cur w' b s q):ArgPost s pl b W (.returned (.tuple #[.slice none 0 0,.bool false])) w':=by
  unfold ArgPost;rw [h];exact ⟨rfl,q,hq,hc⟩
theorem apost_some {s:ByteArray} {pl b q:Nat} {W w':World} {ts:List (Nat×List UInt8)} {r:List UInt8} {v:Value} (h:argsOf (s.data.toList.drop pl)=some (ts,r)) (hp:q=s.size - r.length)
    (ho:w'.ownsRow W.heap.size 71 2 v ts.length (flatT (ts.map natT))) (hc:Cur w' b s q):ArgPost s pl b W (.returned (.tuple #[v,.bool true])) w':=by
  unfold ArgPost;rw [h];rw [hp] at hc;exact ⟨v,rfl,ho,hc⟩
theorem argsOf_open {s:ByteArray} {pl:Nat} (h:nxt s pl 40=true):argsOf (s.data.toList.drop pl)=raf (s.data.toList.drop (pl+1)):=by
  have hlt:=nxt_true h
  rw [nxt_lt s pl 40 hlt] at h
  rw [drop_cons s pl hlt]
  simp at h
  rw [h];rfl
theorem argsOf_shut {s:ByteArray} {pl:Nat} (h:nxt s pl 40=false):argsOf (s.data.toList.drop pl)=none:=by
  by_cases hlt:pl<s.size
  · rw [nxt_lt s pl 40 hlt] at h
    rw [drop_cons s pl hlt]
    simp at h
    unfold argsOf
    split
    · rename_i e;simp at e;exact absurd e.1 h
    · rfl
  · rw [drop_end s pl (by omega)];rfl
set_option maxHeartbeats 4000000 in
theorem readArgs_any (b:Nat) (s:ByteArray) (pl:Nat) (hpl:pl≤s.size) (hs:s.size≤1000000) (W:World) (hc:Cur W b s pl) :
    Calls Tryz.prog 68 #[.pointer (some ⟨b,0,none⟩)] W fun e w'=>ArgPost s pl b W e w'∧W.grownBy w' (some b):=by
  obtain ⟨i24,hi24,hz0,hz1,hz2⟩:=info_parts Tryz.info71
  have HS:Hid (∀ (m:UInt8) (q:Nat) (v:Value) (ts:List (Nat×List UInt8)) (w:World),Hid (Ra W b s q v ts w)→Calls Tryz.prog 69 #[.pointer (some ⟨b,0,none⟩),.string ⟨#[m]⟩] w fun e w'=>e=.returned (.bool (nxt s q m))∧Hid (Ra W b s (if nxt s q m then q+1 else q) v ts w')) :=
    fun m q v ts w h=>(skip_any b s q m h.out.le hs w h.out.cur).mono fun e w' ⟨he,hc,hg⟩=>⟨he,h.out.step hc hg (by
      have:=h.out.le
      split
      · rename_i e;have:=nxt_true e;omega
      · exact this) (by split <;> omega)⟩
  have HT:∀ (q:Nat) (v:Value) (ts:List (Nat×List UInt8)) (w:World),Hid (Ra W b s q v ts w)→Calls Tryz.prog 70 #[.pointer (some ⟨b,0,none⟩)] w fun e w'=>TypePost s q b e w'∧w.grownBy w' (some b) :=
    fun q v ts w h=>readType_any b s q h.out.le hs w h.out.cur
  have H0:Hid (Ra W b s pl (.slice none 0 0) [] W):=⟨hc,World.ownsRow_nil _ _ _ _,⟨rfl,rfl,rfl,Nat.le_refl _,fun _ _ _=>rfl⟩,hc.cells.2.2.2,hpl,Nat.zero_le _⟩
  have hsz:s.data.toList.length=s.size:=by simp
  have HSZ:Hid _:=hsz
  clear hsz hc
  cases h40:nxt s pl 40 with
  | false =>
    have HP:Hid _:=argsOf_shut h40
    clear HT
    go_enter Tryz.func68,Tryz.ntmps68
    go_wp2
    go_step3
    go_wp2_with (go_at_call 69;refine (HS.out _ _ _ _ _ H0).mono ?_;rintro e w1 ⟨rfl,R1⟩;rw [h40,if_neg Bool.false_ne_true] at R1)
    try rw [Exit.noGoto_ret]
    go_ret2
    exact ⟨apost_none HP.out R1.out.le R1.out.cur,R1.out.gr⟩
  | true =>
    have HO:Hid _:=argsOf_open h40
    go_enter Tryz.func68,Tryz.ntmps68
    go_wp2
    go_step3
    go_wp2_with (go_at_call 69;refine (HS.out _ _ _ _ _ H0).mono ?_;rintro e w1 ⟨rfl,R1⟩;rw [h40,if_pos rfl] at R1)
    go_step3
    go_wp2
    clear H0
    go_loopg [4] (s.size - pl) (fun g v wr=>∃ q ts,q+g=s.size+1∧Hid (Ra W b s q v ts wr)∧Hid (argsOf (s.data.toList.drop pl)=(raf (s.data.toList.drop q)).map (fun p=>(ts++p.1,p.2))))
    case atStart=>exact ⟨pl+1,[],by have:=R1.out.le;omega,R1,by rw [Hid,HO.out];cases raf (s.data.toList.drop (pl+1)) <;> rfl⟩
    case round =>
      clear R1 HO h40
      obtain ⟨q,ts,hg,hR,hA⟩:=hrel
      have hle:=hR.out.le
      have BAD:Hid (nxt s q 41=false→readT (s.data.toList.drop q)=none→argsOf (s.data.toList.drop pl)=none):=by
        intro h1 h2
        rw [hA.out]
        by_cases hlt:q<s.size
        · rw [nxt_lt s q 41 hlt] at h1
          simp at h1
          rw [drop_cons s q hlt] at h2 ⊢
          rw [raf_bad h1 h2];rfl
        · rw [drop_end s q (by omega),raf_nil];rfl
      cases h41:nxt s q 41 with
      | true =>
        have hlt:=nxt_true h41
        have HP:Hid (argsOf (s.data.toList.drop pl)=some (ts,s.data.toList.drop (q+1))):=by
          have h1:=h41
          rw [nxt_lt s q 41 hlt] at h1
          simp at h1
          rw [Hid,hA.out,drop_cons s q hlt,h1,raf_end]
          simp
        have HQ:Hid (q+1=s.size - (s.data.toList.drop (q+1)).length):=by rw [Hid,List.length_drop,HSZ.out];omega
        clear hA BAD HT
        go_wp2_with (go_at_call 69;refine (HS.out _ _ _ _ _ hR).mono ?_;rintro e w1 ⟨rfl,R1⟩;rw [h41,if_pos rfl] at R1)
        try rw [Exit.noGoto_ret]
        go_ret2
        exact ⟨apost_some HP.out HQ.out R1.out.own R1.out.cur,R1.out.gr⟩
      | false =>
        cases hr:readT (s.data.toList.drop q) with
        | none =>
          have HP:Hid _:=BAD.out h41 hr
          have HT':Hid (∀ v w,Hid (Ra W b s q v ts w)→Calls Tryz.prog 70 #[.pointer (some ⟨b,0,none⟩)] w fun e w'=>e=.returned (.tuple #[.agg #[.int .i64 0,.string ⟨#[]⟩],.bool false])∧Hid (∃ q',q'≤s.size∧Cur w' b s q'∧W.grownBy w' (some b))):=fun v w h =>
            (HT q v ts w h).mono fun e w' ⟨hp,hgr⟩=>by
              unfold TypePost at hp
              rw [hr] at hp
              obtain ⟨he,q',hq',hc'⟩:=hp
              exact ⟨he,q',hq',hc',grownBy_trans h.out.gr hgr (fun _ e=>.inl e)⟩
          clear hA BAD HT hr
          go_wp2_with (first
            | (go_at_call 69;refine (HS.out _ _ _ _ _ hR).mono ?_;rintro e w1 ⟨rfl,R1⟩;rw [h41,if_neg Bool.false_ne_true] at R1)
            | (go_at_call 70;refine (HT'.out _ _ R1).mono ?_;rintro e w2 ⟨rfl,R2⟩))
          try rw [Exit.noGoto_ret]
          go_ret2
          obtain ⟨q',hq',hc',hg'⟩:=R2.out
          exact ⟨apost_none HP.out hq' (hc'.keep ((Below.refl _ _).alloc (Nat.le_refl _) _)),grownBy_trans hg' (grownBy_below ((Below.refl _ _).alloc (Nat.le_refl _) _) (r:=some b)) (fun _ e=>.inl e)⟩
        | some p =>
          obtain ⟨⟨k,nm⟩,r⟩:=p
          obtain ⟨hrd,hrq,hrl⟩:=read_drop hr
          rw [HSZ.out] at hrd hrq hrl
          have HA:Hid (argsOf (s.data.toList.drop pl)=(raf (s.data.toList.drop (s.size - r.length))).map (fun p=>((ts++[(k,nm)])++p.1,p.2))):=by
            have hlt:q<s.size:=by omega
            have h1:=h41
            rw [nxt_lt s q 41 hlt] at h1
            simp at h1
            have h2:=hr
            rw [drop_cons s q hlt] at h2
            rw [Hid,hA.out,drop_cons s q hlt,raf_step h1 h2,← hrd]
            cases raf r <;> simp
          have HT':Hid (∀ v w,Hid (Ra W b s q v ts w)→Calls Tryz.prog 70 #[.pointer (some ⟨b,0,none⟩)] w fun e w'=>e=.returned (.tuple #[.agg #[.int .i64 k,.string ⟨nm.toArray⟩],.bool true])∧Hid (Ra W b s (s.size - r.length) v ts w')):=fun v w h =>
            (HT q v ts w h).mono fun e w' ⟨hp,hgr⟩=>by
              unfold TypePost at hp
              rw [hr] at hp
              exact ⟨hp.1,h.out.step hp.2 hgr (by omega) (by omega)⟩
          have htl:=hR.out.tl
          have hWs:=hR.out.gr.size
          obtain ⟨z,hz⟩:∃ z,s.size - r.length=z:=⟨_,rfl⟩
          rw [hz] at HA HT' hrq
          have hzs:z≤s.size:=by omega
          clear hA BAD HT hr hrd hrl hz
          go_wp2_with (first
            | (go_at_call 69;refine (HS.out _ _ _ _ _ hR).mono ?_;rintro e w1 ⟨rfl,R1⟩;rw [h41,if_neg Bool.false_ne_true] at R1)
            | (go_at_call 70;refine (HT'.out _ _ R1).mono ?_;rintro e w2 ⟨rfl,R2⟩;have hW2:=R2.out.gr.size)
            | (at_builtin;refine wpList_append_own _ rfl _ _ 69 rfl W.heap.size 71 i24 (.agg #[.int .i64 0,.string ⟨#[]⟩]) 2 24 Tryz.underlying69 hi24 hz0 hz1 hz2 rfl (by decide) _ _ _ rfl ((R2.out.own.alloc _).alloc _) ⟨w2.heap.size+1,0,none⟩ 1 1 [.int .i64 k,.string ⟨nm.toArray⟩] rfl rfl ?c1 ?c2 ?c3 ?c4 ?c5 ?_))
          case c1=>exact two_new2 w2 _ _ _ _
          case c2=>intro u hu;simp at hu;rcases hu with rfl|rfl <;> rfl
          case c3=>unfold maxLen;omega
          case c4=>omega
          case c5=>simp;omega
          · intro v' w3 hown' hgrow _
            have R3:Hid (Ra W b s z v' (ts++[(k,nm)]) w3):=Ra.app _ _ R2.out (by omega) hown' hgrow
            clear hown' hgrow R2 R1 hR
            go_wp2
            go_roundg (s.size+1 - z)
            case measure=>omega
            case rel=>exact ⟨z,ts++[(k,nm)],by omega,R3,HA⟩
theorem suffix_drop {l a r:List UInt8} (h:l=a++r):r=l.drop (l.length - r.length):=by
  have e:l.length - r.length=a.length:=by rw [h,List.length_append];omega
  rw [e,h,List.drop_left]
theorem args_drop {l:List UInt8} {q:Nat} {ts:List (Nat×List UInt8)} {r:List UInt8} (h:argsOf (l.drop q)=some (ts,r)):r=l.drop (l.length - r.length)∧r.length≤l.length:=by
  unfold argsOf at h
  split at h
  · rename_i r0 e
    have hw:=(write_args h).1
    have e2:l=(l.take q++(40::writeArgs ts++[41]))++r:=by
      conv=>lhs;rw [← List.take_append_drop q l,e,hw]
      simp
    refine ⟨suffix_drop e2,?_⟩
    have:=congrArg List.length e2
    simp only [List.length_append] at this
    omega
  · simp at h
def descOf (l:List UInt8):Option ((List (Nat×List UInt8)×Option (Nat×List UInt8))×List UInt8):=match argsOf l with
  | none=>none
  | some (ts,q)=>if q.head?=some 86 then some ((ts,none),q.drop 1) else match readT q with
    | none=>none
    | some (t,r)=>some ((ts,some t),r)
def retT (x:Option (Nat×List UInt8)):Nat×List UInt8:=x.getD (0,[])
def voidB (x:Option (Nat×List UInt8)):Bool:=x.isNone
theorem own_base {w:World} {base base':Nat} {e:TypeId} {size:Nat} {v:Value} {n:Nat} {xs:List Value} (h:w.ownsRow base e size v n xs) (hb:base'≤base):w.ownsRow base' e size v n xs:=by
  refine ⟨h.1,?_⟩
  rcases h.2 with hn|⟨g,cap,cur,rfl,hb1,rest⟩
  · exact .inl hn
  · exact .inr ⟨g,cap,cur,rfl,Nat.le_trans hb hb1,rest⟩
theorem own_slice {w:World} {base:Nat} {e:TypeId} {size:Nat} {v:Value} {n:Nat} {xs:List Value} (h:w.ownsRow base e size v n xs):∃ ao cap,v=.slice ao n cap:=by
  rcases h.2 with ⟨rfl,rfl⟩|⟨g,cap,cur,rfl,_⟩
  · exact ⟨none,0,rfl⟩
  · exact ⟨_,cap,rfl⟩
def zeroD:Array Value:=#[.slice none 0 0,.bool false,.int .i64 0,.string ⟨#[]⟩]
structure Dd (W:World) (b:Nat) (s:ByteArray) (q:Nat) (v:Value) (ts:List (Nat×List UInt8)) (wr:World):Prop where
  cur:Cur wr b s q
  own:wr.ownsRow (W.heap.size+1) 71 2 v ts.length (flatT (ts.map natT))
  r:wr.heap[W.heap.size]?=some (.cells zeroD 73 (0,0))
  gr:W.grownBy wr (some b)
  hb:b<W.heap.size
  le:q≤s.size
theorem Dd.step {W wr w1:World} {b:Nat} {s:ByteArray} {q q':Nat} {v:Value} {ts:List (Nat×List UInt8)} (h:Dd W b s q v ts wr) (hc:Cur w1 b s q') (hg:wr.grownBy w1 (some b)) (hq:q'≤s.size):Dd W b s q' v ts w1 :=
  ⟨hc,h.own.kept hg (.inr (fun e=>by have:=(h.own.lt b e).1;have:=h.hb;omega)),by rw [hg.block _ (Array.getElem?_eq_some_iff.1 h.r).1 (by have:=h.hb;simp;omega)];exact h.r,grownBy_trans h.gr hg (fun _ e=>.inl e),h.hb,hq⟩
theorem Dd.cells {W wr:World} {b:Nat} {s:ByteArray} {q:Nat} {v:Value} {ts:List (Nat×List UInt8)} (h:Dd W b s q v ts wr) :
    wr.cell? ⟨W.heap.size,0,none⟩=some (.slice none 0 0)∧wr.cell? ⟨W.heap.size,1,none⟩=some (.bool false)∧wr.cell? ⟨W.heap.size,2,none⟩=some (.int .i64 0)∧wr.cell? ⟨W.heap.size,3,none⟩=some (.string ⟨#[]⟩) ∧
    wr.frozen? ⟨W.heap.size,0,none⟩=false∧wr.frozen? ⟨W.heap.size,1,none⟩=false∧wr.frozen? ⟨W.heap.size,2,none⟩=false∧wr.frozen? ⟨W.heap.size,3,none⟩=false∧W.heap.size<wr.heap.size:=by
  refine ⟨?_,?_,?_,?_,?_,?_,?_,?_,(Array.getElem?_eq_some_iff.1 h.r).1⟩
  · rw [cell_of_row _ W.heap.size 0 _ 73 (0,0) h.r];rfl
  · rw [cell_of_row _ W.heap.size 1 _ 73 (0,0) h.r];rfl
  · rw [cell_of_row _ W.heap.size 2 _ 73 (0,0) h.r];rfl
  · rw [cell_of_row _ W.heap.size 3 _ 73 (0,0) h.r];rfl
  all_goals simp [World.frozen?,h.r]
def set4 (w:World) (n:Nat) (u0 u1 u2 u3:Value):World:=(((w.setCell ⟨n,0,none⟩ u0).setCell ⟨n,1,none⟩ u1).setCell ⟨n,2,none⟩ u2).setCell ⟨n,3,none⟩ u3
theorem grownBy_set4 (w:World) (n:Nat) (u0 u1 u2 u3:Value):w.grownBy (set4 w n u0 u1 u2 u3) (some n) :=
  grownBy_trans (grownBy_trans (grownBy_trans (grownBy_set w n 0 u0) (grownBy_set _ n 1 u1) (fun _ e=>.inl e)) (grownBy_set _ n 2 u2) (fun _ e=>.inl e)) (grownBy_set _ n 3 u3) (fun _ e=>.inl e)
theorem Dd.done {W wr:World} {b:Nat} {s:ByteArray} {q:Nat} {v:Value} {ts:List (Nat×List UInt8)} (h:Dd W b s q v ts wr) (u0 u1 u2 u3:Value) :
    Cur (set4 wr W.heap.size u0 u1 u2 u3) b s q∧(set4 wr W.heap.size u0 u1 u2 u3).ownsRow W.heap.size 71 2 v ts.length (flatT (ts.map natT))∧W.grownBy (set4 wr W.heap.size u0 u1 u2 u3) (some b):=by
  have hb:=h.hb
  have hg:=grownBy_set4 wr W.heap.size u0 u1 u2 u3
  refine ⟨?_,own_base (h.own.kept hg (.inr (fun e=>by have:=(h.own.lt _ e).1;omega))) (Nat.le_succ _),grownBy_trans h.gr hg (fun k e=>by simp at e;right;omega)⟩
  have hc:=h.cur
  unfold Cur at *
  rw [hg.block b (Array.getElem?_eq_some_iff.1 hc).1 (by simp;omega)]
  exact hc
def DescPost (s:ByteArray) (pl b:Nat) (W:World) (e:Ending) (w':World):Prop:=match descOf (s.data.toList.drop pl) with
  | some ((ts,x),r)=>∃ v,e=.returned (.tuple #[.agg #[v,.bool (voidB x),.int .i64 (retT x).1,.string ⟨(retT x).2.toArray⟩],.bool true])∧w'.ownsRow W.heap.size 71 2 v ts.length (flatT (ts.map natT))∧Cur w' b s (s.size - r.length)
  | none=>e=.returned (.tuple #[.agg #[.slice none 0 0,.bool false,.int .i64 0,.string ⟨#[]⟩],.bool false])∧∃ q,q≤s.size∧Cur w' b s q
theorem dpost_none {s:ByteArray} {pl b q:Nat} {W w':World} (h:descOf (s.data.toList.drop pl)=none) (hq:q≤s.size) (hc:Cur w' b s q):DescPost s pl b W (.returned (.tuple #[.agg #[.slice none 0 0,.bool false,.int .i64 0,.string ⟨#[]⟩],.bool false])) w':=by
  unfold DescPost;rw [h];exact ⟨rfl,q,hq,hc⟩
theorem dpost_some {s:ByteArray} {pl b q:Nat} {W w':World} {ts:List (Nat×List UInt8)} {x:Option (Nat×List UInt8)} {r:List UInt8} {v:Value} (h:descOf (s.data.toList.drop pl)=some ((ts,x),r)) (hp:q=s.size - r.length)
    (ho:w'.ownsRow W.heap.size 71 2 v ts.length (flatT (ts.map natT))) (hc:Cur w' b s q):DescPost s pl b W (.returned (.tuple #[.agg #[v,.bool (voidB x),.int .i64 (retT x).1,.string ⟨(retT x).2.toArray⟩],.bool true])) w':=by
  unfold DescPost;rw [h];rw [hp] at hc;exact ⟨v,rfl,ho,hc⟩
set_option maxHeartbeats 4000000 in
theorem readDesc_any (b:Nat) (s:ByteArray) (pl:Nat) (hpl:pl≤s.size) (hs:s.size≤1000000) (W:World) (hc:Cur W b s pl) :
    Calls Tryz.prog 38 #[.pointer (some ⟨b,0,none⟩)] W fun e w'=>DescPost s pl b W e w'∧W.grownBy w' (some b):=by
  have hsz:s.data.toList.length=s.size:=by simp
  have HS:Hid (∀ (m:UInt8) (q:Nat) (v:Value) (ts:List (Nat×List UInt8)) (w:World),Hid (Dd W b s q v ts w)→Calls Tryz.prog 69 #[.pointer (some ⟨b,0,none⟩),.string ⟨#[m]⟩] w fun e w'=>e=.returned (.bool (nxt s q m))∧Hid (Dd W b s (if nxt s q m then q+1 else q) v ts w')) :=
    fun m q v ts w h=>(skip_any b s q m h.out.le hs w h.out.cur).mono fun e w' ⟨he,hc,hg⟩=>⟨he,h.out.step hc hg (by
      have:=h.out.le
      split
      · rename_i e;have:=nxt_true e;omega
      · exact this)⟩
  have HT:∀ (q:Nat) (v:Value) (ts:List (Nat×List UInt8)) (w:World),Hid (Dd W b s q v ts w)→Calls Tryz.prog 70 #[.pointer (some ⟨b,0,none⟩)] w fun e w'=>TypePost s q b e w'∧w.grownBy w' (some b) :=
    fun q v ts w h=>readType_any b s q h.out.le hs w h.out.cur
  have H0:Dd W b s pl (.slice none 0 0) [] (W.alloc (.cells zeroD 73)):=⟨hc.keep ((Below.refl _ _).alloc (Nat.le_refl _) _),World.ownsRow_nil _ _ _ _,heap_alloc_new W _,grownBy_below ((Below.refl _ _).alloc (Nat.le_refl _) _),hc.cells.2.2.2,hpl⟩
  have HAR:=readArgs_any b s pl hpl hs _ H0.cur
  unfold ArgPost at HAR
  cases ha:argsOf (s.data.toList.drop pl) with
  | none =>
    have HP:Hid (descOf (s.data.toList.drop pl)=none):=by rw [Hid,descOf,ha]
    rw [ha] at HAR
    have HA:Hid (Calls Tryz.prog 68 #[.pointer (some ⟨b,0,none⟩)] (W.alloc (.cells #[.slice none 0 0,.bool false,.int .i64 0,.string ⟨#[]⟩] 73)) fun e w'=>e=.returned (.tuple #[.slice none 0 0,.bool false])∧∃ q,Hid (Dd W b s q (.slice none 0 0) [] w')) :=
      HAR.mono fun e w' ⟨⟨he,q,hq,hc⟩,hg⟩=>⟨he,q,H0.step hc hg hq⟩
    clear HAR HT HS ha hc H0 hsz
    go_enter Tryz.func38,Tryz.ntmps38
    go_wp2_with (go_at_call 68;refine (HA.out).mono ?_;rintro e w1 ⟨rfl,q,R1⟩;obtain ⟨c0,c1,c2,c3,f0,f1,f2,f3,hz⟩:=R1.out.cells)
    refine bodyPost_ret (v:=.tuple #[.agg #[.slice none 0 0,.bool false,.int .i64 0,.string ⟨#[]⟩],.bool false]) (by simp [results,Tryz.results38,go_sem, *]) rfl ⟨dpost_none HP.out R1.out.le (R1.out.done _ _ _ _).1,(R1.out.done _ _ _ _).2.2⟩
  | some p =>
    obtain ⟨ts,r⟩:=p
    obtain ⟨hrd,hrl⟩:=args_drop ha
    rw [hsz] at hrd hrl
    rw [ha] at HAR
    have HA:Hid (Calls Tryz.prog 68 #[.pointer (some ⟨b,0,none⟩)] (W.alloc (.cells #[.slice none 0 0,.bool false,.int .i64 0,.string ⟨#[]⟩] 73)) fun e w'=>∃ v,e=.returned (.tuple #[v,.bool true])∧Hid (Dd W b s (s.size - r.length) v ts w')) :=
      HAR.mono fun e w' ⟨⟨v,he,ho,hc⟩,hg⟩=>⟨v,he,by
        have h1:=H0.step hc hg (by omega)
        refine ⟨h1.cur,?_,h1.r,h1.gr,h1.hb,h1.le⟩
        have:=ho
        rw [show (W.alloc (.cells zeroD 73)).heap.size=W.heap.size+1 by simp] at this
        exact this⟩
    clear HAR
    obtain ⟨q,hq⟩:∃ q,s.size - r.length=q:=⟨_,rfl⟩
    rw [hq] at HA hrd
    have hqs:q≤s.size:=by omega
    have hnx:nxt s q 86=(r.head? == some 86):=by rw [nxt,← hrd]
    cases h86:nxt s q 86 with
    | true =>
      have hr86:r.head?=some 86:=by rw [h86] at hnx;simpa using hnx.symm
      have hlt:=nxt_true h86
      have HP:Hid (descOf (s.data.toList.drop pl)=some ((ts,none),r.drop 1)):=by rw [Hid,descOf,ha];simp [hr86]
      have HQ:Hid (q+1=s.size - (r.drop 1).length):=by rw [Hid,List.length_drop];omega
      clear HT ha hc H0 hsz hrd hrl hq hnx hr86
      go_enter Tryz.func38,Tryz.ntmps38
      go_wp2_with (first
        | (go_at_call 68;refine (HA.out).mono ?_;rintro e w1 ⟨v,rfl,R1⟩;obtain ⟨ao,cap,rfl⟩:=own_slice R1.out.own)
        | (go_at_call 69;refine (HS.out _ _ _ _ _ R1).mono ?_;rintro e w2 ⟨rfl,R2⟩;rw [h86,if_pos rfl] at R2;obtain ⟨c0,c1,c2,c3,f0,f1,f2,f3,hz⟩:=R2.out.cells))
      refine bodyPost_ret (v:=.tuple #[.agg #[.slice ao ts.length cap,.bool true,.int .i64 0,.string ⟨#[]⟩],.bool true]) (by simp [results,Tryz.results38,go_sem, *]) rfl ⟨dpost_some (x:=none) HP.out HQ.out (R2.out.done _ _ _ _).2.1 (R2.out.done _ _ _ _).1,(R2.out.done _ _ _ _).2.2⟩
    | false =>
      have hr86:r.head?≠some 86:=by rw [h86] at hnx;simpa using hnx.symm
      cases hr:readT r with
      | none =>
        have HP:Hid (descOf (s.data.toList.drop pl)=none):=by rw [Hid,descOf,ha];simp [hr86,hr]
        have HT':Hid (∀ v w,Hid (Dd W b s q v ts w)→Calls Tryz.prog 70 #[.pointer (some ⟨b,0,none⟩)] w fun e w'=>e=.returned (.tuple #[.agg #[.int .i64 0,.string ⟨#[]⟩],.bool false])∧∃ q',Hid (Dd W b s q' v ts w')):=fun v w h =>
          (HT q v ts w h).mono fun e w' ⟨hp,hgr⟩=>by
            unfold TypePost at hp
            rw [← hrd,hr] at hp
            obtain ⟨he,q',hq',hc'⟩:=hp
            exact ⟨he,q',h.out.step hc' hgr hq'⟩
        clear HT ha hc H0 hsz hrd hrl hq hnx hr86 hr
        go_enter Tryz.func38,Tryz.ntmps38
        go_wp2_with (first
          | (go_at_call 68;refine (HA.out).mono ?_;rintro e w1 ⟨v,rfl,R1⟩;obtain ⟨ao,cap,rfl⟩:=own_slice R1.out.own)
          | (go_at_call 69;refine (HS.out _ _ _ _ _ R1).mono ?_;rintro e w2 ⟨rfl,R2⟩;rw [h86,if_neg Bool.false_ne_true] at R2)
          | (go_at_call 70;refine (HT'.out _ _ R2).mono ?_;rintro e w3 ⟨rfl,q',R3⟩;obtain ⟨c0,c1,c2,c3,f0,f1,f2,f3,hz⟩:=R3.out.cells))
        have R5:=R3.out.done (.slice none 0 0) (.bool false) (.int .i64 0) (.string ⟨#[]⟩)
        have hal:Below (set4 w3 W.heap.size (.slice none 0 0) (.bool false) (.int .i64 0) (.string ⟨#[]⟩)).heap.size (set4 w3 W.heap.size (.slice none 0 0) (.bool false) (.int .i64 0) (.string ⟨#[]⟩)) ((set4 w3 W.heap.size (.slice none 0 0) (.bool false) (.int .i64 0) (.string ⟨#[]⟩)).alloc (.cells #[.int .i64 0,.string ⟨#[]⟩] 71)):=(Below.refl _ _).alloc (Nat.le_refl _) _
        refine bodyPost_ret (v:=.tuple #[.agg #[.slice none 0 0,.bool false,.int .i64 0,.string ⟨#[]⟩],.bool false]) (by simp [results,Tryz.results38,go_sem, *]) rfl ⟨dpost_none HP.out R3.out.le (R5.1.keep hal),grownBy_trans R5.2.2 (grownBy_below hal (r:=some b)) (fun _ e=>.inl e)⟩
      | some p =>
        obtain ⟨⟨k,nm⟩,y⟩:=p
        have hrd2:=hrd
        obtain ⟨hyd,hyq,hyl⟩:=read_drop (l:=s.data.toList) (q:=q) (by rw [← hrd2];exact hr)
        rw [hsz] at hyd hyq hyl
        have HP:Hid (descOf (s.data.toList.drop pl)=some ((ts,some (k,nm)),y)):=by rw [Hid,descOf,ha];simp [hr86,hr]
        have HT':Hid (∀ v w,Hid (Dd W b s q v ts w)→Calls Tryz.prog 70 #[.pointer (some ⟨b,0,none⟩)] w fun e w'=>e=.returned (.tuple #[.agg #[.int .i64 k,.string ⟨nm.toArray⟩],.bool true])∧Hid (Dd W b s (s.size - y.length) v ts w')):=fun v w h =>
          (HT q v ts w h).mono fun e w' ⟨hp,hgr⟩=>by
            unfold TypePost at hp
            rw [← hrd,hr] at hp
            exact ⟨hp.1,h.out.step hp.2 hgr (by omega)⟩
        clear HT ha hc H0 hsz hrd hrl hq hnx hr86 hr hrd2 hyd hyq hyl
        go_enter Tryz.func38,Tryz.ntmps38
        go_wp2_with (first
          | (go_at_call 68;refine (HA.out).mono ?_;rintro e w1 ⟨v,rfl,R1⟩;obtain ⟨ao,cap,rfl⟩:=own_slice R1.out.own)
          | (go_at_call 69;refine (HS.out _ _ _ _ _ R1).mono ?_;rintro e w2 ⟨rfl,R2⟩;rw [h86,if_neg Bool.false_ne_true] at R2)
          | (go_at_call 70;refine (HT'.out _ _ R2).mono ?_;rintro e w3 ⟨rfl,R3⟩;obtain ⟨c0,c1,c2,c3,f0,f1,f2,f3,hz⟩:=R3.out.cells))
        have R5:=R3.out.done (.slice ao ts.length cap) (.bool false) (.int .i64 k) (.string ⟨nm.toArray⟩)
        have hal:Below (set4 w3 W.heap.size (.slice ao ts.length cap) (.bool false) (.int .i64 k) (.string ⟨nm.toArray⟩)).heap.size (set4 w3 W.heap.size (.slice ao ts.length cap) (.bool false) (.int .i64 k) (.string ⟨nm.toArray⟩)) ((set4 w3 W.heap.size (.slice ao ts.length cap) (.bool false) (.int .i64 k) (.string ⟨nm.toArray⟩)).alloc (.cells #[.int .i64 k,.string ⟨nm.toArray⟩] 71)):=(Below.refl _ _).alloc (Nat.le_refl _) _
        refine bodyPost_ret (v:=.tuple #[.agg #[.slice ao ts.length cap,.bool false,.int .i64 k,.string ⟨nm.toArray⟩],.bool true]) (by simp [results,Tryz.results38,go_sem, *]) rfl ⟨dpost_some (x:=some (k,nm)) HP.out rfl (own_below R5.2.1 hal (Nat.le_refl _)) (R5.1.keep hal),grownBy_trans R5.2.2 (grownBy_below hal (r:=some b)) (fun _ e=>.inl e)⟩
def parE (l:List UInt8):Int:=if 2000<l.length then 5 else match readT l with
  | some (t,[])=>if 255<t.1 then 5 else 0
  | _=>4
def parT (l:List UInt8):Nat×List UInt8:=if parE l=0 then (match readT l with
  | some (t,_)=>t
  | none=>(0,[])) else (0,[])
def prfE (l:List UInt8):Int:=if 2000<l.length then 5 else if l.head?=some 91 then parE l else if validL l then 0 else 4
def prfT (l:List UInt8):Nat×List UInt8:=if 2000<l.length then (0,[]) else if l.head?=some 91 then parT l else if validL l then (0,l) else (0,[])
structure Pst (w:World) (s:ByteArray) (q:Nat) (w2:World):Prop where
  r:w2.heap[w.heap.size]?=some (.cells #[.int .i64 0,.string ⟨#[]⟩] 71 (0,0))
  cur:Cur w2 (w.heap.size+1) s q
  bel:Below w.heap.size w w2
theorem Pst.keep {w w2 w3:World} {s:ByteArray} {q:Nat} (h:Pst w s q w2) (hb:Below w2.heap.size w2 w3):Pst w s q w3 :=
  ⟨by rw [hb.block _ (Array.getElem?_eq_some_iff.1 h.r).1];exact h.r,h.cur.keep hb,Below.step h.bel hb⟩
theorem Pst.cells {w wr:World} {s:ByteArray} {q:Nat} (h:Pst w s q wr) :
    wr.cell? ⟨w.heap.size,0,none⟩=some (.int .i64 0)∧wr.cell? ⟨w.heap.size,1,none⟩=some (.string ⟨#[]⟩)∧wr.frozen? ⟨w.heap.size,0,none⟩=false∧wr.frozen? ⟨w.heap.size,1,none⟩=false∧w.heap.size+1<wr.heap.size∧w.heap.size<wr.heap.size:=by
  refine ⟨?_,?_,?_,?_,h.cur.cells.2.2.2,Nat.lt_of_succ_lt h.cur.cells.2.2.2⟩
  · rw [cell_of_row _ w.heap.size 0 _ 71 (0,0) h.r];rfl
  · rw [cell_of_row _ w.heap.size 1 _ 71 (0,0) h.r];rfl
  all_goals simp [World.frozen?,h.r]
theorem Pst.done {w w2:World} {s:ByteArray} {q:Nat} (h:Pst w s q w2) (u v:Value):Below w.heap.size w ((w2.setCell ⟨w.heap.size,0,none⟩ u).setCell ⟨w.heap.size,1,none⟩ v) :=
  (h.bel.setCell (Nat.le_refl _) _).setCell (Nat.le_refl _) _
theorem Pst.first (w:World) (s:ByteArray):Pst w s 0 ((w.alloc (.cells #[.int .i64 0,.string ⟨#[]⟩] 71)).alloc (.cells #[.string s,.int .i64 0] 178)):=by
  refine ⟨?_,?_,((Below.refl _ _).alloc (Nat.le_refl _) _).alloc (by simp) _⟩
  · rw [Below.heap_alloc _ _ _ (by simp)];exact heap_alloc_new w _
  · have:=heap_alloc_new (w.alloc (.cells #[.int .i64 0,.string ⟨#[]⟩] 71)) (.cells #[.string s,.int .i64 0] 178)
    unfold Cur
    simpa using this
theorem Pst.grown {w w2 w3:World} {s:ByteArray} {q q':Nat} (h:Pst w s q w2) (hg:w2.grownBy w3 (some (w.heap.size+1))) (hc:Cur w3 (w.heap.size+1) s q'):Pst w s q' w3 :=
  ⟨by rw [hg.block _ (Array.getElem?_eq_some_iff.1 h.r).1 (by simp)];exact h.r,hc,h.bel.grown hg h.bel.size (fun k e=>by simp at e;omega)⟩
set_option maxHeartbeats 1000000 in
theorem parse_any (s:ByteArray) (hs:s.size≤maxLen) (w:World) :
    Calls Tryz.prog 65 #[.string s] w fun e w'=>e=.returned (.tuple #[.agg #[.int .i64 (parT s.data.toList).1,.string ⟨(parT s.data.toList).2.toArray⟩],.int .i64 (parE s.data.toList)])∧Below w.heap.size w w':=by
  have hlen:s.data.toList.length=s.size:=by simp
  unfold maxLen at hs
  by_cases hbig:2000<s.size
  · have HE:Hid (parE s.data.toList=5):=by rw [Hid,parE,if_pos (by rw [hlen];exact hbig)]
    have HT:Hid (parT s.data.toList=(0,[])):=by rw [Hid,parT,HE.out];rfl
    clear hlen
    generalize parE s.data.toList=x at *
    generalize parT s.data.toList=t at *
    go_enter Tryz.func65,Tryz.ntmps65
    go_wp2
    refine bodyPost_ret (v:=.tuple #[.agg #[.int .i64 0,.string ⟨#[]⟩],.int .i64 5]) (by simp [results,Tryz.results65,go_sem, *]) rfl ⟨?_,?_⟩
    · rw [HT.out,HE.out];rfl
    · exact (Below.refl _ _).alloc (Nat.le_refl _) _
  · have HR:=readType_any (w.heap.size+1) s 0 (Nat.zero_le _) (by omega) _ (Pst.first w s).cur
    have hE:parE s.data.toList=match readT s.data.toList with
      | some (t,[])=>if 255<t.1 then 5 else 0
      | _=>4:=by rw [parE,if_neg (by rw [hlen];exact hbig)];try rfl
    have HN:Hid (∀ w,_):=newCursor_any s
    have HA:Hid (∀ (q:Nat) (w2 w3:World),Hid (Pst w s q w2)→Below w2.heap.size w2 w3→Calls Tryz.prog 39 #[.pointer (some ⟨w.heap.size+1,0,none⟩)] w3 fun e w'=>e=.returned (.bool (decide (q=s.size)))∧Below w3.heap.size w3 w') :=
      fun q w2 w3 h hb=>atEnd_any (w.heap.size+1) s q w3 (h.out.keep hb).cur
    unfold TypePost at HR
    rw [List.drop_zero] at HR
    cases hr:readT s.data.toList with
    | none =>
      rw [hr] at hE HR
      have HE:Hid (parE s.data.toList=4):=hE
      have HT:Hid (parT s.data.toList=(0,[])):=by rw [Hid,parT,HE.out];rfl
      have HQ:Hid (Calls Tryz.prog 70 #[.pointer (some ⟨w.heap.size+1,0,none⟩)] ((w.alloc (.cells #[.int .i64 0,.string ⟨#[]⟩] 71)).alloc (.cells #[.string s,.int .i64 0] 178)) fun e w'=>e=.returned (.tuple #[.agg #[.int .i64 0,.string ⟨#[]⟩],.bool false])∧∃ q,Hid (Pst w s q w')) :=
        HR.mono fun e w' ⟨⟨he,q,_,hc⟩,hg⟩=>⟨he,q,(Pst.first w s).grown hg hc⟩
      clear hE HR hr hlen
      generalize parE s.data.toList=x at *
      generalize parT s.data.toList=t at *
      go_enter Tryz.func65,Tryz.ntmps65
      go_wp2_with (first
        | (go_at_call 37;refine ((HN.out) _).mono ?_;rintro e w1 ⟨rfl,rfl⟩)
        | (go_at_call 70;refine (HQ.out).mono ?_;rintro e w2 ⟨rfl,q,hP⟩;obtain ⟨c0,c1,f0,f1,hz,hz'⟩:=hP.out.cells))
      refine bodyPost_ret (v:=.tuple #[.agg #[.int .i64 0,.string ⟨#[]⟩],.int .i64 4]) (by simp [results,Tryz.results65,go_sem, *]) rfl ⟨?_,?_⟩
      · rw [HT.out,HE.out];rfl
      · exact (hP.out.done _ _).alloc (by simp;omega) _
    | some p =>
      obtain ⟨⟨k,nm⟩,r⟩:=p
      rw [hr] at hE HR
      have hrl:=readT_less hr
      rw [hlen] at hrl
      have HQ:Hid (Calls Tryz.prog 70 #[.pointer (some ⟨w.heap.size+1,0,none⟩)] ((w.alloc (.cells #[.int .i64 0,.string ⟨#[]⟩] 71)).alloc (.cells #[.string s,.int .i64 0] 178)) fun e w'=>e=.returned (.tuple #[.agg #[.int .i64 k,.string ⟨nm.toArray⟩],.bool true])∧Hid (Pst w s (s.size - r.length) w')) :=
        HR.mono fun e w' ⟨⟨he,hc⟩,hg⟩=>⟨he,(Pst.first w s).grown hg hc⟩
      cases r with
      | cons c q =>
        have HE:Hid (parE s.data.toList=4):=hE
        have HT:Hid (parT s.data.toList=(0,[])):=by rw [Hid,parT,HE.out];rfl
        obtain ⟨m,hm⟩:∃ m:Nat,s.size - (c::q).length=m:=⟨_,rfl⟩
        rw [hm] at HQ
        have hne:decide (m=s.size)=false:=by simp at hm hrl ⊢;omega
        have HA':Hid (∀ (w2 w3:World),Hid (Pst w s m w2)→Below w2.heap.size w2 w3→Calls Tryz.prog 39 #[.pointer (some ⟨w.heap.size+1,0,none⟩)] w3 fun e w'=>e=.returned (.bool false)∧Below w3.heap.size w3 w'):=fun w2 w3 h hb=>by have:=HA.out m w2 w3 h hb;rw [hne] at this;exact this
        clear hE HR hr hlen hm hrl hne HA
        generalize parE s.data.toList=x at *
        generalize parT s.data.toList=t at *
        go_enter Tryz.func65,Tryz.ntmps65
        go_wp2_with (first
          | (go_at_call 37;refine ((HN.out) _).mono ?_;rintro e w1 ⟨rfl,rfl⟩)
          | (go_at_call 70;refine (HQ.out).mono ?_;rintro e w2 ⟨rfl,hP⟩;obtain ⟨c0,c1,f0,f1,hz,hz'⟩:=hP.out.cells)
          | (go_at_call 39;refine (HA'.out _ _ hP ((Below.refl _ _).alloc (Nat.le_refl _) _)).mono ?_;rintro e w3 ⟨rfl,hb3⟩;have hP3:Hid (Pst w s m w3):=(hP.out.keep ((Below.refl _ _).alloc (Nat.le_refl _) _)).keep hb3;have t0:w3.cell? ⟨w2.heap.size,0,none⟩=some (.int .i64 k):=(by rw [hb3.cell (p:=⟨w2.heap.size,0,none⟩) (by simp),cell_of_row _ w2.heap.size 0 _ 71 (0,0) (heap_alloc_new w2 _)];rfl);have t1:w3.cell? ⟨w2.heap.size,1,none⟩=some (.string ⟨nm.toArray⟩):=(by rw [hb3.cell (p:=⟨w2.heap.size,1,none⟩) (by simp),cell_of_row _ w2.heap.size 1 _ 71 (0,0) (heap_alloc_new w2 _)];rfl);have hs3:w2.heap.size<w3.heap.size:=(by have:=hb3.size;simp at this;omega);clear hb3;obtain ⟨d0,d1,g0,g1,hy,hy'⟩:=hP3.out.cells))
        refine bodyPost_ret (v:=.tuple #[.agg #[.int .i64 0,.string ⟨#[]⟩],.int .i64 4]) (by simp [results,Tryz.results65,go_sem, *]) rfl ⟨?_,?_⟩
        · rw [HT.out,HE.out];rfl
        · exact hP3.out.done _ _
      | nil =>
        have HA':Hid (∀ (w2 w3:World),Hid (Pst w s s.size w2)→Below w2.heap.size w2 w3→Calls Tryz.prog 39 #[.pointer (some ⟨w.heap.size+1,0,none⟩)] w3 fun e w'=>e=.returned (.bool true)∧Below w3.heap.size w3 w'):=fun w2 w3 h hb=>by have:=HA.out s.size w2 w3 h hb;simp only [decide_true] at this;exact this
        have HD:Hid (∀ w,_):=isDeep_any k ⟨nm.toArray⟩
        have h0:s.size - ([]:List UInt8).length=s.size:=rfl
        rw [h0] at HQ
        by_cases hk:255<k
        · have HE:Hid (parE s.data.toList=5):=by rw [Hid,hE];simp [hk]
          have HT:Hid (parT s.data.toList=(0,[])):=by rw [Hid,parT,HE.out];rfl
          have hdk:decide ((255:Int)<(k:Int))=true:=by simp;omega
          rw [hdk] at HD
          clear hE HR hr hlen hrl h0 HA hdk
          generalize parE s.data.toList=x at *
          generalize parT s.data.toList=t at *
          go_enter Tryz.func65,Tryz.ntmps65
          go_wp2_with (first
            | (go_at_call 37;refine ((HN.out) _).mono ?_;rintro e w1 ⟨rfl,rfl⟩)
            | (go_at_call 70;refine (HQ.out).mono ?_;rintro e w2 ⟨rfl,hP⟩;obtain ⟨c0,c1,f0,f1,hz,hz'⟩:=hP.out.cells)
            | (go_at_call 39;refine (HA'.out _ _ hP ((Below.refl _ _).alloc (Nat.le_refl _) _)).mono ?_;rintro e w3 ⟨rfl,hb3⟩;have hP3:Hid (Pst w s s.size w3):=(hP.out.keep ((Below.refl _ _).alloc (Nat.le_refl _) _)).keep hb3;have t0:w3.cell? ⟨w2.heap.size,0,none⟩=some (.int .i64 k):=(by rw [hb3.cell (p:=⟨w2.heap.size,0,none⟩) (by simp),cell_of_row _ w2.heap.size 0 _ 71 (0,0) (heap_alloc_new w2 _)];rfl);have t1:w3.cell? ⟨w2.heap.size,1,none⟩=some (.string ⟨nm.toArray⟩):=(by rw [hb3.cell (p:=⟨w2.heap.size,1,none⟩) (by simp),cell_of_row _ w2.heap.size 1 _ 71 (0,0) (heap_alloc_new w2 _)];rfl);have hs3:w2.heap.size<w3.heap.size:=(by have:=hb3.size;simp at this;omega);clear hb3;obtain ⟨d0,d1,g0,g1,hy,hy'⟩:=hP3.out.cells)
            | (go_at_call 40;refine ((HD.out) _).mono ?_;rintro e w4 ⟨rfl,hb4⟩;have hP4:Hid (Pst w s s.size w4):=hP3.out.keep hb4;have t2:w4.cell? ⟨w2.heap.size,0,none⟩=some (.int .i64 k):=(hb4.cell (p:=⟨w2.heap.size,0,none⟩) hs3).trans t0;have t3:w4.cell? ⟨w2.heap.size,1,none⟩=some (.string ⟨nm.toArray⟩):=(hb4.cell (p:=⟨w2.heap.size,1,none⟩) hs3).trans t1;clear hb4;obtain ⟨b0,b1,b2,b3,b4,b5⟩:=hP4.out.cells))
          refine bodyPost_ret (v:=.tuple #[.agg #[.int .i64 0,.string ⟨#[]⟩],.int .i64 5]) (by simp [results,Tryz.results65,go_sem, *]) rfl ⟨?_,?_⟩
          · rw [HT.out,HE.out];rfl
          · exact hP4.out.done _ _
        · have HE:Hid (parE s.data.toList=0):=by rw [Hid,hE];simp [hk]
          have HT:Hid (parT s.data.toList=(k,nm)):=by rw [Hid,parT,HE.out,hr];rfl
          have hdk:decide ((255:Int)<(k:Int))=false:=by simp;omega
          rw [hdk] at HD
          clear hE HR hr hlen hrl h0 HA hdk
          generalize parE s.data.toList=x at *
          generalize parT s.data.toList=t at *
          go_enter Tryz.func65,Tryz.ntmps65
          go_wp2_with (first
            | (go_at_call 37;refine ((HN.out) _).mono ?_;rintro e w1 ⟨rfl,rfl⟩)
            | (go_at_call 70;refine (HQ.out).mono ?_;rintro e w2 ⟨rfl,hP⟩;obtain ⟨c0,c1,f0,f1,hz,hz'⟩:=hP.out.cells)
            | (go_at_call 39;refine (HA'.out _ _ hP ((Below.refl _ _).alloc (Nat.le_refl _) _)).mono ?_;rintro e w3 ⟨rfl,hb3⟩;have hP3:Hid (Pst w s s.size w3):=(hP.out.keep ((Below.refl _ _).alloc (Nat.le_refl _) _)).keep hb3;have t0:w3.cell? ⟨w2.heap.size,0,none⟩=some (.int .i64 k):=(by rw [hb3.cell (p:=⟨w2.heap.size,0,none⟩) (by simp),cell_of_row _ w2.heap.size 0 _ 71 (0,0) (heap_alloc_new w2 _)];rfl);have t1:w3.cell? ⟨w2.heap.size,1,none⟩=some (.string ⟨nm.toArray⟩):=(by rw [hb3.cell (p:=⟨w2.heap.size,1,none⟩) (by simp),cell_of_row _ w2.heap.size 1 _ 71 (0,0) (heap_alloc_new w2 _)];rfl);have hs3:w2.heap.size<w3.heap.size:=(by have:=hb3.size;simp at this;omega);clear hb3;obtain ⟨d0,d1,g0,g1,hy,hy'⟩:=hP3.out.cells)
            | (go_at_call 40;refine ((HD.out) _).mono ?_;rintro e w4 ⟨rfl,hb4⟩;have hP4:Hid (Pst w s s.size w4):=hP3.out.keep hb4;have t2:w4.cell? ⟨w2.heap.size,0,none⟩=some (.int .i64 k):=(hb4.cell (p:=⟨w2.heap.size,0,none⟩) hs3).trans t0;have t3:w4.cell? ⟨w2.heap.size,1,none⟩=some (.string ⟨nm.toArray⟩):=(hb4.cell (p:=⟨w2.heap.size,1,none⟩) hs3).trans t1;clear hb4;obtain ⟨b0,b1,b2,b3,b4,b5⟩:=hP4.out.cells))
          refine bodyPost_ret (v:=.tuple #[.agg #[.int .i64 k,.string ⟨nm.toArray⟩],.int .i64 0]) (by simp [results,Tryz.results65,go_sem, *]) rfl ⟨?_,?_⟩
          · rw [HT.out,HE.out]
          · exact hP4.out.done _ _
end Go.Proofs.YtlohdfpinmdljaaGreatDoor
