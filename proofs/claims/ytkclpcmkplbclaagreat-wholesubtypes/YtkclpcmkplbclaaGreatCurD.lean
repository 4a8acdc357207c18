import Derived.Test.YtkclpcmkplbclaaGreatCurB
import Derived.Test.YtkclpcmkplbclaaGreatHrR
import Derived.Laws.IdiomStrings
import Derived.BigQuiet
import Derived.Deep.QuietTactic
import Derived.Deep.LoopGhost
import Derived.WalkMore
set_option maxRecDepth 100000
namespace Go.Proofs.YtkclpcmkplbclaaGreat
open Go.RowKit
theorem nxt_lt (s:ByteArray) (i:Nat) (m:UInt8) (h:i<s.size):nxt s i m=decide (s[i]=m):=by
  unfold nxt
  rw [drop_cons s i h,List.head?_cons,Bool.eq_iff_iff]
  simp
theorem nxt_end (s:ByteArray) (i:Nat) (m:UInt8) (h:s.size≤i):nxt s i m=false:=by
  unfold nxt
  rw [drop_end s i h];rfl
theorem nxt_true {s:ByteArray} {i:Nat} {m:UInt8} (h:nxt s i m=true):i<s.size:=by
  by_cases q:i<s.size
  · exact q
  · rw [nxt_end s i m (by omega)] at h;simp at h
theorem nameP_le (l:List UInt8):nameP l≤l.length:=by
  unfold nameP
  split
  · rename_i a b h
    split
    · rw [(semi_eq h).1];simp
    · omega
  · omega
structure Rt (W:World) (b:Nat) (s:ByteArray) (q:Nat) (wr:World):Prop where
  cur:Cur wr b s q
  r:wr.heap[W.heap.size]?=some (.cells #[.int .i64 0,.string ⟨#[]⟩] 24 (0,0))
  gr:W.grownBy wr (some b)
  hb:b<W.heap.size
  le:q≤s.size
theorem Rt.step {W wr w1:World} {b:Nat} {s:ByteArray} {q q':Nat} (h:Rt W b s q wr) (hc:Cur w1 b s q') (hg:wr.grownBy w1 (some b)) (hq:q'≤s.size):Rt W b s q' w1 :=
  ⟨hc,by rw [hg.block _ (Array.getElem?_eq_some_iff.1 h.r).1 (by have:=h.hb;simp;omega)];exact h.r,grownBy_trans h.gr hg (fun _ e=>.inl e),h.hb,hq⟩
theorem Rt.cells {W wr:World} {b:Nat} {s:ByteArray} {q:Nat} (h:Rt W b s q wr) :
    wr.cell? ⟨W.heap.size,0,none⟩=some (.int .i64 0)∧wr.cell? ⟨W.heap.size,1,none⟩=some (.string ⟨#[]⟩)∧wr.frozen? ⟨W.heap.size,0,none⟩=false∧wr.frozen? ⟨W.heap.size,1,none⟩=false:=by
  refine ⟨?_,?_,?_,?_⟩
  · rw [cell_of_row _ W.heap.size 0 _ 24 (0,0) h.r];rfl
  · rw [cell_of_row _ W.heap.size 1 _ 24 (0,0) h.r];rfl
  all_goals simp [World.frozen?,h.r]
theorem Rt.done {W wr:World} {b:Nat} {s:ByteArray} {q:Nat} (h:Rt W b s q wr) (u v:Value) :
    Cur ((wr.setCell ⟨W.heap.size,0,none⟩ u).setCell ⟨W.heap.size,1,none⟩ v) b s q∧W.grownBy ((wr.setCell ⟨W.heap.size,0,none⟩ u).setCell ⟨W.heap.size,1,none⟩ v) (some b):=by
  have hb:=h.hb
  constructor
  · unfold Cur
    rw [heap_setCell_other _ ⟨W.heap.size,1,none⟩ b v (by simp;omega),heap_setCell_other _ ⟨W.heap.size,0,none⟩ b u (by simp;omega)]
    exact h.cur
  · refine grownBy_trans (grownBy_trans h.gr (grownBy_set wr W.heap.size 0 u) ?_) (grownBy_set _ W.heap.size 1 v) ?_
    · intro k e;right;simp at e;omega
    · intro k e;right;simp at e;omega
def TypePost (s:ByteArray) (pl b:Nat) (e:Ending) (w':World):Prop:=match readT (s.data.toList.drop pl) with
  | some (t,r)=>e=.returned (.tuple #[.agg #[.int .i64 t.1,.string ⟨t.2.toArray⟩],.bool true])∧Cur w' b s (s.size - r.length)
  | none=>e=.returned (.tuple #[.agg #[.int .i64 0,.string ⟨#[]⟩],.bool false])∧∃ q,q≤s.size∧Cur w' b s q
theorem tpost_none {s:ByteArray} {pl b q:Nat} {w':World} (h:readT (s.data.toList.drop pl)=none) (hq:q≤s.size) (hc:Cur w' b s q):TypePost s pl b (.returned (.tuple #[.agg #[.int .i64 0,.string ⟨#[]⟩],.bool false])) w':=by
  unfold TypePost;rw [h];exact ⟨rfl,q,hq,hc⟩
theorem tpost_some {s:ByteArray} {pl b q:Nat} {k:Nat} {nm r:List UInt8} {w':World} (h:readT (s.data.toList.drop pl)=some ((k,nm),r)) (hp:q=s.size - r.length) (hc:Cur w' b s q) :
    TypePost s pl b (.returned (.tuple #[.agg #[.int .i64 k,.string ⟨nm.toArray⟩],.bool true])) w':=by
  unfold TypePost;rw [h];rw [hp] at hc;exact ⟨rfl,hc⟩
set_option maxHeartbeats 4000000 in
theorem readType_any (b:Nat) (s:ByteArray) (pl:Nat) (hpl:pl≤s.size) (hs:s.size≤1000000) (W:World) (hc:Cur W b s pl) :
    Calls Tryz.prog 204 #[.pointer (some ⟨b,0,none⟩)] W fun e w'=>TypePost s pl b e w'∧W.grownBy w' (some b):=by
  have HS:Hid (∀ (m:UInt8) (q:Nat) (w:World),Hid (Rt W b s q w)→Calls Tryz.prog 203 #[.pointer (some ⟨b,0,none⟩),.string ⟨#[m]⟩] w fun e w'=>e=.returned (.bool (nxt s q m))∧Hid (Rt W b s (if nxt s q m then q+1 else q) w')) :=
    fun m q w h=>(skip_any b s q m h.out.le hs w h.out.cur).mono fun e w' ⟨he,hc,hg⟩=>⟨he,h.out.step hc hg (by
      have:=h.out.le
      split
      · rename_i e;have:=nxt_true e;omega
      · exact this)⟩
  have HN:Hid (∀ (q:Nat) (w:World),Hid (Rt W b s q w)→Calls Tryz.prog 213 #[.pointer (some ⟨b,0,none⟩)] w fun e w'=>e=.returned (.tuple #[.string ⟨(nameS (s.data.toList.drop q)).toArray⟩,.bool (nameB (s.data.toList.drop q))])∧Hid (Rt W b s (q+nameP (s.data.toList.drop q)) w')) :=
    fun q w h=>(readName_any b s q h.out.le hs w h.out.cur).mono fun e w' ⟨he,hc,hg⟩=>⟨he,h.out.step hc hg (by
      have h1:=h.out.le
      have h2:=nameP_le (s.data.toList.drop q)
      simp at h2;omega)⟩
  have H0:Hid (Rt W b s pl (W.alloc (.cells #[.int .i64 0,.string ⟨#[]⟩] 24))) :=
    ⟨hc.keep ((Below.refl _ _).alloc (Nat.le_refl _) _),heap_alloc_new W _,grownBy_below ((Below.refl _ _).alloc (Nat.le_refl _) _),hc.cells.2.2.2,hpl⟩
  have hsz:s.data.toList.length=s.size:=by simp
  have HSZ:Hid _:=hsz
  clear hsz hc
  go_enter Tryz.func204,Tryz.ntmps204
  go_wp2
  go_loopw [4] (fun p wr=>∃ j:Nat,p=.int .i64 j∧pl+j≤s.size∧Hid (Rt W b s (pl+j) wr) ∧
      Hid (bracks (s.data.toList.drop pl)=((bracks (s.data.toList.drop (pl+j))).1+j,(bracks (s.data.toList.drop (pl+j))).2))) (fun p _=>s.size - (intOf p).toNat)
  case atStart=>exact ⟨0,rfl,hpl,H0,rfl⟩
  case round =>
    clear H0
    obtain ⟨j,rfl,hj,hR,hbr⟩:=hrel
    by_cases hlt:pl+j<s.size
    · by_cases h91:s[pl+j]=91
      · have q91:nxt s (pl+j) 91=true:=by rw [nxt_lt s _ _ hlt];simp [h91]
        have HB:Hid (bracks (s.data.toList.drop pl)=((bracks (s.data.toList.drop (pl+(j+1)))).1+(j+1),(bracks (s.data.toList.drop (pl+(j+1)))).2)):=by
          rw [Hid,hbr.out,bracks_step s (pl+j) hlt h91]
          simp only [Prod.mk.injEq]
          exact ⟨by rw [show pl+j+1=pl+(j+1) by omega];omega,by rw [show pl+j+1=pl+(j+1) by omega]⟩
        clear hbr h91
        go_wp2_with (go_at_call 203;refine (HS.out _ _ _ hR).mono ?_;rintro e w1 ⟨rfl,R1⟩;rw [q91,if_pos rfl] at R1)
        go_roundw
        case rel=>exact ⟨j+1,by go_num,by omega,R1,HB⟩
        case measure=>simp [intOf];omega
      · have hb0:bracks (s.data.toList.drop pl)=(j,s.data.toList.drop (pl+j)):=by rw [hbr.out,bracks_stop s (pl+j) hlt h91,Nat.zero_add]
        rw [drop_cons s (pl+j) hlt] at hb0
        have q91:nxt s (pl+j) 91=false:=by rw [nxt_lt s _ _ hlt];simp [h91]
        by_cases h73:s[pl+j]=73
        · have q73:nxt s (pl+j) 73=true:=by rw [nxt_lt s _ _ hlt];simp [h73]
          have HP:Hid _:=read_int (by rw [h73] at hb0;exact hb0)
          have HQ:Hid (pl+j+1=s.size - (s.data.toList.drop (pl+j+1)).length):=by rw [Hid,List.length_drop,HSZ.out];omega
          clear hbr h91 h73 hb0
          go_wp2_with (go_at_call 203;refine (HS.out _ _ _ hR).mono ?_;clear hR;rintro e w1 ⟨rfl,hR⟩;first|rw [q91,if_neg Bool.false_ne_true] at hR|rw [q73,if_pos rfl] at hR;obtain ⟨c0,c1,c2,c3⟩:=hR.out.cells)
          refine bodyPost_ret (v:=.tuple #[.agg #[.int .i64 j,.string ⟨#[]⟩],.bool true]) (by simp [results,Tryz.results204,go_sem, *]) rfl ⟨tpost_some HP.out HQ.out (hR.out.done _ _).1,(hR.out.done _ _).2⟩
        · have q73:nxt s (pl+j) 73=false:=by rw [nxt_lt s _ _ hlt];simp [h73]
          by_cases h76:s[pl+j]=76
          · have q76:nxt s (pl+j) 76=true:=by rw [nxt_lt s _ _ hlt];simp [h76]
            rw [h76] at hb0
            cases hsm:semi (s.data.toList.drop (pl+j+1)) with
            | none =>
              have e2:nameB (s.data.toList.drop (pl+j+1))=false:=by simp [nameB,hsm]
              have HP:Hid _:=read_open hb0 hsm
              clear hbr h91 h73 h76 hb0 hsm
              go_wp2_with (first
                | (go_at_call 203;refine (HS.out _ _ _ hR).mono ?_;clear hR;rintro e w1 ⟨rfl,hR⟩;first|rw [q91,if_neg Bool.false_ne_true] at hR|rw [q73,if_neg Bool.false_ne_true] at hR|rw [q76,if_pos rfl] at hR;obtain ⟨c0,c1,c2,c3⟩:=hR.out.cells)
                | (go_at_call 213;refine (HN.out _ _ hR).mono ?_;clear hR;rintro e w1 ⟨rfl,hR⟩;rw [e2];obtain ⟨c0,c1,c2,c3⟩:=hR.out.cells))
              refine bodyPost_ret (v:=.tuple #[.agg #[.int .i64 0,.string ⟨#[]⟩],.bool false]) (by simp [results,Tryz.results204,go_sem, *]) rfl ⟨tpost_none HP.out hR.out.le (hR.out.done _ _).1,(hR.out.done _ _).2⟩
            | some p =>
              obtain ⟨x,y⟩:=p
              cases hv:validL x with
              | false =>
                have e2:nameB (s.data.toList.drop (pl+j+1))=false:=by simp [nameB,hsm,hv]
                have HP:Hid _:=read_bad hb0 hsm hv
                clear hbr h91 h73 h76 hb0 hsm hv
                go_wp2_with (first
                  | (go_at_call 203;refine (HS.out _ _ _ hR).mono ?_;clear hR;rintro e w1 ⟨rfl,hR⟩;first|rw [q91,if_neg Bool.false_ne_true] at hR|rw [q73,if_neg Bool.false_ne_true] at hR|rw [q76,if_pos rfl] at hR;obtain ⟨c0,c1,c2,c3⟩:=hR.out.cells)
                  | (go_at_call 213;refine (HN.out _ _ hR).mono ?_;clear hR;rintro e w1 ⟨rfl,hR⟩;rw [e2];obtain ⟨c0,c1,c2,c3⟩:=hR.out.cells))
                refine bodyPost_ret (v:=.tuple #[.agg #[.int .i64 0,.string ⟨#[]⟩],.bool false]) (by simp [results,Tryz.results204,go_sem, *]) rfl ⟨tpost_none HP.out hR.out.le (hR.out.done _ _).1,(hR.out.done _ _).2⟩
              | true =>
                have e1:nameS (s.data.toList.drop (pl+j+1))=x:=by simp [nameS,hsm,hv]
                have e2:nameB (s.data.toList.drop (pl+j+1))=true:=by simp [nameB,hsm,hv]
                have e3:nameP (s.data.toList.drop (pl+j+1))=x.length+1:=by simp [nameP,hsm,hv]
                have HP:Hid _:=read_cls hb0 hsm hv
                have HQ:Hid (pl+j+1+(x.length+1)=s.size - y.length):=by
                  have h1:(s.data.toList.drop (pl+j+1)).length=s.size - (pl+j+1):=by rw [List.length_drop,HSZ.out]
                  rw [(semi_eq hsm).1,List.length_append,List.length_cons] at h1
                  rw [Hid];omega
                clear hbr h91 h73 h76 hb0 hsm hv
                go_wp2_with (first
                  | (go_at_call 203;refine (HS.out _ _ _ hR).mono ?_;clear hR;rintro e w1 ⟨rfl,hR⟩;first|rw [q91,if_neg Bool.false_ne_true] at hR|rw [q73,if_neg Bool.false_ne_true] at hR|rw [q76,if_pos rfl] at hR;obtain ⟨c0,c1,c2,c3⟩:=hR.out.cells)
                  | (go_at_call 213;refine (HN.out _ _ hR).mono ?_;clear hR;rintro e w1 ⟨rfl,hR⟩;rw [e2,e1];rw [e3] at hR;obtain ⟨c0,c1,c2,c3⟩:=hR.out.cells))
                refine bodyPost_ret (v:=.tuple #[.agg #[.int .i64 j,.string ⟨x.toArray⟩],.bool true]) (by simp [results,Tryz.results204,go_sem, *]) rfl ⟨tpost_some HP.out HQ.out (hR.out.done _ _).1,(hR.out.done _ _).2⟩
          · have q76:nxt s (pl+j) 76=false:=by rw [nxt_lt s _ _ hlt];simp [h76]
            have HP:Hid _:=read_other hb0 h73 h76
            clear hbr h91 h73 h76 hb0
            go_wp2_with (go_at_call 203;refine (HS.out _ _ _ hR).mono ?_;clear hR;rintro e w1 ⟨rfl,hR⟩;first|rw [q91,if_neg Bool.false_ne_true] at hR|rw [q73,if_neg Bool.false_ne_true] at hR|rw [q76,if_neg Bool.false_ne_true] at hR;obtain ⟨c0,c1,c2,c3⟩:=hR.out.cells)
            refine bodyPost_ret (v:=.tuple #[.agg #[.int .i64 0,.string ⟨#[]⟩],.bool false]) (by simp [results,Tryz.results204,go_sem, *]) rfl ⟨tpost_none HP.out hR.out.le (hR.out.done _ _).1,(hR.out.done _ _).2⟩
    · have q91:nxt s (pl+j) 91=false:=nxt_end _ _ _ (by omega)
      have q73:nxt s (pl+j) 73=false:=nxt_end _ _ _ (by omega)
      have q76:nxt s (pl+j) 76=false:=nxt_end _ _ _ (by omega)
      have HP:Hid _:=read_nil (l:=s.data.toList.drop pl) (j:=j) (by rw [hbr.out,drop_end s (pl+j) (by omega)];simp [bracks])
      clear hbr
      go_wp2_with (go_at_call 203;refine (HS.out _ _ _ hR).mono ?_;clear hR;rintro e w1 ⟨rfl,hR⟩;first|rw [q91,if_neg Bool.false_ne_true] at hR|rw [q73,if_neg Bool.false_ne_true] at hR|rw [q76,if_neg Bool.false_ne_true] at hR;obtain ⟨c0,c1,c2,c3⟩:=hR.out.cells)
      refine bodyPost_ret (v:=.tuple #[.agg #[.int .i64 0,.string ⟨#[]⟩],.bool false]) (by simp [results,Tryz.results204,go_sem, *]) rfl ⟨tpost_none HP.out hR.out.le (hR.out.done _ _).1,(hR.out.done _ _).2⟩
set_option maxHeartbeats 400000 in
theorem tySame_any (d1 d2:Int) (s1 s2:ByteArray) (w:World) :
    Calls Tryz.prog 65 #[.agg #[.int .i64 d1,.string s1],.agg #[.int .i64 d2,.string s2]] w fun e w'=>e=.returned (.bool (decide (d1=d2)&&decide (s1=s2)))∧Below w.heap.size w w':=by
  have hb:(s1.toList == s2.toList)=decide (s1=s2):=by
    rw [Bool.eq_iff_iff]
    simp only [beq_iff_eq,decide_eq_true_eq]
    exact ⟨fun h=>bytes_ext (by rw [← Lib.toList_data,← Lib.toList_data,h]),fun h=>by rw [h]⟩
  have hd:(d1 == d2)=decide (d1=d2):=by rw [Bool.eq_iff_iff];simp
  have HB:Hid _:=hb
  have HD:Hid _:=hd
  clear hb hd
  cases he:(d1 == d2) with
  | false =>
    go_enter Tryz.func65,Tryz.ntmps65
    go_wp2
    go_ret
    exact ⟨ret_bool (by rw [← HD.out,he];simp),((Below.refl _ _).alloc (Nat.le_refl _) _).alloc (by simp) _⟩
  | true =>
    have he':d1=d2:=by simpa using he
    subst he'
    clear he
    go_enter Tryz.func65,Tryz.ntmps65
    go_wp2
    go_ret
    exact ⟨ret_bool (by rw [← HB.out]),((Below.refl _ _).alloc (Nat.le_refl _) _).alloc (by simp) _⟩
set_option maxHeartbeats 400000 in
theorem tyCheck_any (d:Int) (s:ByteArray) (hs:s.size≤maxLen) (w:World) :
    Calls Tryz.prog 113 #[.agg #[.int .i64 d,.string s]] w fun e w'=>e=.returned (.int .i64 (chkI (sndB d s.data.toList)))∧Below w.heap.size w w':=by
  have HV:Hid (∀ w,_):=valid_any s hs
  have HD:Hid (∀ w,_):=isDeep_any d s
  have HB:Hid (sndB d s.data.toList=(decide (0≤d)&&decide (d≤255)&&(s.toList.isEmpty||validL s.data.toList))):=by rw [Hid,Lib.toList_data];rfl
  generalize validL s.data.toList=b at *
  generalize sndB d s.data.toList=r at *
  by_cases h1:0≤d
  · have h1':¬ d<0:=by omega
    by_cases h2:d≤255
    · have h3:decide (255<d)=false:=by simp;omega
      rw [h3] at HD
      clear h3
      cases he:s.toList.isEmpty with
      | true =>
        have HR:Hid (r=true):=by rw [Hid,HB.out,he];simp [h1,h2]
        go_enter Tryz.func113,Tryz.ntmps113
        go_wp2_with (go_at_call 147;refine ((HD.out) _).mono ?_;rintro e w0 ⟨rfl,hb0⟩;have hc0:=hb0.cell (p:=⟨w.heap.size,0,none⟩) (by simp);have hc1:=hb0.cell (p:=⟨w.heap.size,1,none⟩) (by simp))
        go_ret
        exact ⟨ret_int (by rw [HR.out];rfl),Below.step ((Below.refl _ _).alloc (Nat.le_refl _) _) (by assumption)⟩
      | false =>
        have HR:Hid (r=b):=by rw [Hid,HB.out,he];simp [h1,h2]
        cases b
        all_goals
          go_enter Tryz.func113,Tryz.ntmps113
          go_wp2_with (first
            | (go_at_call 147;refine ((HD.out) _).mono ?_;rintro e w0 ⟨rfl,hb0⟩;have hc0:=hb0.cell (p:=⟨w.heap.size,0,none⟩) (by simp);have hc1:=hb0.cell (p:=⟨w.heap.size,1,none⟩) (by simp))
            | (go_at_call 148;refine ((HV.out) _).mono ?_;rintro e w1 ⟨rfl,hb1⟩))
          go_ret
          exact ⟨ret_int (by rw [HR.out];rfl),Below.step (Below.step ((Below.refl _ _).alloc (Nat.le_refl _) _) hb0) hb1⟩
    · have HR:Hid (r=false):=by rw [Hid,HB.out];simp [h2]
      have h3:decide (255<d)=true:=by simp;omega
      rw [h3] at HD
      clear h3
      go_enter Tryz.func113,Tryz.ntmps113
      go_wp2_with (go_at_call 147;refine ((HD.out) _).mono ?_;rintro e w0 ⟨rfl,hb0⟩;have hc0:=hb0.cell (p:=⟨w.heap.size,0,none⟩) (by simp);have hc1:=hb0.cell (p:=⟨w.heap.size,1,none⟩) (by simp))
      go_ret
      exact ⟨ret_int (by rw [HR.out];rfl),Below.step ((Below.refl _ _).alloc (Nat.le_refl _) _) (by assumption)⟩
  · have HR:Hid (r=false):=by rw [Hid,HB.out];simp [h1]
    have h1':d<0:=by omega
    go_enter Tryz.func113,Tryz.ntmps113
    go_wp2
    go_ret
    exact ⟨ret_int (by rw [HR.out];rfl),(Below.refl _ _).alloc (Nat.le_refl _) _⟩
structure Nd where
  i:Bool
  sp:Nat
  cl:List Nat
structure WO (ns:List Nd):Prop where
  top:∃ n,ns[0]?=some n∧n.sp=0∧n.cl=[]∧n.i=false
  sp:∀ (k:Nat) (n:Nd),0<k→ns[k]?=some n→n.sp<k∧(∀ p,ns[n.sp]?=some p→p.i=false∧∀ i∈p.cl,i∈n.cl)∧(n.i=true→n.sp=0)
  cl:∀ (k:Nat) (n:Nd),ns[k]?=some n→n.cl.Nodup∧∀ i∈n.cl,i<k∧∃ p,ns[i]?=some p∧p.i=true∧∀ j∈p.cl,j∈n.cl
def spO (ns:List Nd) (k:Nat):Nat:=match ns[k]? with
  | some n=>n.sp
  | none=>0
def clO (ns:List Nd) (k:Nat):List Nat:=match ns[k]? with
  | some n=>n.cl
  | none=>[]
def upF (ns:List Nd):Nat→Nat→List Nat
  | 0,k=>[k]
  | f+1,k=>k::(if k=0 then [] else upF ns f (spO ns k))
def chL (ns:List Nd) (k:Nat):List Nat:=upF ns k k
def extB (ns:List Nd) (a b:Nat):Bool:=(chL ns a).contains b||(clO ns a).contains b
theorem WO.spLt {ns:List Nd} (h:WO ns) {k:Nat} (hk:k<ns.length) (h0:0<k):spO ns k<k:=by
  have e:ns[k]?=some ns[k]:=List.getElem?_eq_getElem hk
  have:=(h.sp k _ h0 e).1
  rw [spO,e];exact this
theorem upF_eq {ns:List Nd} (h:WO ns):∀ (f g k:Nat),k≤f→k≤g→k<ns.length→upF ns f k=upF ns g k
  | 0,0,_,_,_,_=>rfl
  | 0,g+1,k,hf,_,_=>by
    obtain rfl:k=0:=by omega
    rfl
  | f+1,0,k,_,hg,_=>by
    obtain rfl:k=0:=by omega
    rfl
  | f+1,g+1,k,hf,hg,hk=>by
    rw [upF,upF]
    by_cases h0:k=0
    · rw [if_pos h0,if_pos h0]
    · rw [if_neg h0,if_neg h0]
      have:=h.spLt hk (by omega)
      rw [upF_eq h f g (spO ns k) (by omega) (by omega) (by omega)]
theorem chL_zero (ns:List Nd):chL ns 0=[0]:=rfl
theorem chL_cons {ns:List Nd} (h:WO ns) {k:Nat} (hk:k<ns.length) (h0:0<k):chL ns k=k::chL ns (spO ns k):=by
  have hs:=h.spLt hk h0
  obtain ⟨j,rfl⟩:∃ j,k=j+1:=⟨k - 1,by omega⟩
  rw [chL,upF,if_neg (by omega),chL,upF_eq h j (spO ns (j+1)) (spO ns (j+1)) (by omega) (Nat.le_refl _) (by omega)]
theorem chL_self (ns:List Nd) (k:Nat):k∈chL ns k:=by
  cases k with
  | zero=>simp [chL_zero]
  | succ k=>simp [chL,upF]
theorem ch_ind {ns:List Nd} (h:WO ns) {P:Nat→Prop} (h0:P 0) (hs:∀ k,k<ns.length→0<k→spO ns k<k→P (spO ns k)→P k):∀ k,k<ns.length→P k:=by
  intro k
  induction k using Nat.strongRecOn with
  | _ k ih =>
    intro hk
    by_cases hz:k=0
    · rw [hz];exact h0
    · have:=h.spLt hk (by omega)
      exact hs k hk (by omega) this (ih _ this (by omega))
theorem ch_le {ns:List Nd} (h:WO ns) (a:Nat) (ha:a<ns.length):∀ b∈chL ns a,b≤a:=by
  refine ch_ind h (P:=fun a=>∀ b∈chL ns a,b≤a) (by simp [chL_zero]) ?_ a ha
  intro k hk h0 hl ih b hb
  rw [chL_cons h hk h0] at hb
  rcases List.mem_cons.1 hb with rfl|hb
  · exact Nat.le_refl _
  · have:=ih b hb;omega
theorem ch_zero {ns:List Nd} (h:WO ns) (a:Nat) (ha:a<ns.length):0∈chL ns a:=by
  refine ch_ind h (P:=fun a=>0∈chL ns a) (by simp [chL_zero]) ?_ a ha
  intro k hk h0 hl ih
  rw [chL_cons h hk h0];exact List.mem_cons_of_mem _ ih
theorem ch_nodup {ns:List Nd} (h:WO ns) (a:Nat) (ha:a<ns.length):(chL ns a).Nodup:=by
  refine ch_ind h (P:=fun a=>(chL ns a).Nodup) (by simp [chL_zero]) ?_ a ha
  intro k hk h0 hl ih
  rw [chL_cons h hk h0]
  refine List.nodup_cons.2 ⟨fun hm=>?_,ih⟩
  have:=ch_le h _ (by omega) k hm
  omega
theorem ch_pos {ns:List Nd} (a:Nat):0<(chL ns a).length:=by
  have:=chL_self ns a
  exact List.length_pos_of_mem this
theorem ch_head {ns:List Nd} (a:Nat):(chL ns a)[0]?=some a:=by
  cases a with
  | zero=>rfl
  | succ k=>rfl
theorem ch_plain {ns:List Nd} (h:WO ns) (a:Nat) (ha:a<ns.length):∀ b∈chL ns a,b≠a→∀ p,ns[b]?=some p→p.i=false:=by
  refine ch_ind h (P:=fun a=>∀ b∈chL ns a,b≠a→∀ p,ns[b]?=some p→p.i=false) (by intro b hb hn;simp [chL_zero] at hb;exact absurd hb hn) ?_ a ha
  intro k hk h0 hl ih b hb hn p hp
  rw [chL_cons h hk h0] at hb
  rcases List.mem_cons.1 hb with rfl|hb
  · exact absurd rfl hn
  · by_cases hs:b=spO ns k
    · have e:ns[k]?=some ns[k]:=List.getElem?_eq_getElem hk
      have h2:=(h.sp k _ h0 e).2.1
      rw [hs,spO,e] at hp
      exact (h2 p hp).1
    · exact ih b hb hs p hp
theorem ch_trans {ns:List Nd} (h:WO ns) (a:Nat) (ha:a<ns.length):∀ b∈chL ns a,∀ c∈chL ns b,c∈chL ns a:=by
  refine ch_ind h (P:=fun a=>∀ b∈chL ns a,∀ c∈chL ns b,c∈chL ns a) ?_ ?_ a ha
  · intro b hb c hc
    simp [chL_zero] at hb
    subst hb
    exact hc
  · intro k hk h0 hl ih b hb c hc
    rw [chL_cons h hk h0] at hb
    rcases List.mem_cons.1 hb with rfl|hb
    · exact hc
    · rw [chL_cons h hk h0]
      exact List.mem_cons_of_mem _ (ih b hb c hc)
theorem ch_cl {ns:List Nd} (h:WO ns) (a:Nat) (ha:a<ns.length):∀ b∈chL ns a,∀ c∈clO ns b,c∈clO ns a:=by
  refine ch_ind h (P:=fun a=>∀ b∈chL ns a,∀ c∈clO ns b,c∈clO ns a) ?_ ?_ a ha
  · intro b hb c hc
    simp [chL_zero] at hb
    subst hb
    exact hc
  · intro k hk h0 hl ih b hb c hc
    rw [chL_cons h hk h0] at hb
    rcases List.mem_cons.1 hb with rfl|hb
    · exact hc
    · have h1:=ih b hb c hc
      have e:ns[k]?=some ns[k]:=List.getElem?_eq_getElem hk
      have h2:=(h.sp k _ h0 e).2.1
      have hs:spO ns k=ns[k].sp:=by rw [spO,e]
      have hq:ns[k].sp<ns.length:=by omega
      obtain ⟨p,e2⟩:∃ p,ns[ns[k].sp]?=some p:=⟨_,List.getElem?_eq_getElem hq⟩
      rw [clO,hs,e2] at h1
      rw [clO,e]
      exact (h2 _ e2).2 c h1
theorem cl_facts {ns:List Nd} (h:WO ns) {a i:Nat} (hi:i∈clO ns a):i<a∧a<ns.length∧∃ p,ns[i]?=some p∧p.i=true∧∀ j∈p.cl,j∈clO ns a:=by
  cases e:ns[a]? with
  | none=>rw [clO,e] at hi;simp at hi
  | some n =>
    rw [clO,e] at hi ⊢
    obtain ⟨h1,h2⟩:=(h.cl a n e).2 i hi
    exact ⟨h1,(List.getElem?_eq_some_iff.1 e).1,h2⟩
theorem ch_iface {ns:List Nd} (h:WO ns) {b:Nat} {p:Nd} (hb:ns[b]?=some p) (hi:p.i=true):∀ c∈chL ns b,c=b∨c=0:=by
  intro c hc
  have hl:=(List.getElem?_eq_some_iff.1 hb).1
  by_cases hz:b=0
  · subst hz;simp [chL_zero] at hc;exact .inl hc
  · have hs:spO ns b=0:=by rw [spO,hb];exact (h.sp b p (by omega) hb).2.2 hi
    rw [chL_cons h hl (by omega),hs,chL_zero] at hc
    simpa using hc
theorem ext_iff (ns:List Nd) (a b:Nat):extB ns a b=true↔b∈chL ns a∨b∈clO ns a:=by
  simp [extB]
theorem ext_le {ns:List Nd} (h:WO ns) {a b:Nat} (ha:a<ns.length) (he:extB ns a b=true):b≤a:=by
  rcases (ext_iff _ _ _).1 he with h1|h1
  · exact ch_le h a ha b h1
  · exact Nat.le_of_lt (cl_facts h h1).1
theorem ext_self (ns:List Nd) (a:Nat):extB ns a a=true:=(ext_iff _ _ _).2 (.inl (chL_self _ _))
theorem ext_trans {ns:List Nd} (h:WO ns) {a b c:Nat} (ha:a<ns.length) (h1:extB ns a b=true) (h2:extB ns b c=true):extB ns a c=true:=by
  have hb:=ext_le h ha h1
  rw [ext_iff] at h1 h2 ⊢
  rcases h1 with h1|h1
  · rcases h2 with h2|h2
    · exact .inl (ch_trans h a ha b h1 c h2)
    · exact .inr (ch_cl h a ha b h1 c h2)
  · obtain ⟨_,_,p,hp,hi,hcl⟩:=cl_facts h h1
    rcases h2 with h2|h2
    · rcases ch_iface h hp hi c h2 with rfl|rfl
      · exact .inr h1
      · exact .inl (ch_zero h a ha)
    · rw [clO,hp] at h2
      exact .inr (hcl c h2)
theorem ext_anti {ns:List Nd} (h:WO ns) {a b:Nat} (ha:a<ns.length) (h1:extB ns a b=true) (hn:a≠b):extB ns b a=false:=by
  have hb:=ext_le h ha h1
  cases e:extB ns b a with
  | false=>rfl
  | true=>have:=ext_le h (by omega) e;omega
theorem takeL_iff (cl a:List Nat) (i:Nat):i∈takeL cl a↔i∈cl∨i∈a:=by
  induction a generalizing cl with
  | nil=>simp [takeL]
  | cons x a ih =>
    rw [takeL,ih]
    split
    · rename_i hx
      have hx:=List.contains_iff_mem.1 hx
      simp only [List.mem_cons]
      constructor
      · rintro (h|h)
        · exact .inl h
        · exact .inr (.inr h)
      · rintro (h|rfl|h)
        · exact .inl h
        · exact .inl hx
        · exact .inr h
    · simp only [List.mem_append,List.mem_cons,List.not_mem_nil,or_false,or_assoc]
theorem gathF_iff (cls:List (List Nat)) (ifs:List Nat) (c:List Nat) (i:Nat):i∈ifs.foldl (gathF cls) c↔i∈c∨∃ x∈ifs,i=x∨i∈cls.getD x []:=by
  induction ifs generalizing c with
  | nil=>simp
  | cons x l ih =>
    rw [List.foldl_cons,ih,gathF,takeL_iff,takeL_iff]
    simp only [List.mem_cons,List.not_mem_nil,or_false,exists_eq_or_imp]
    constructor
    · rintro (((h|h)|h)|h)
      · exact .inl h
      · exact .inr (.inl (.inr h))
      · exact .inr (.inl (.inl h))
      · exact .inr (.inr h)
    · rintro (h|(h|h)|h)
      · exact .inl (.inl (.inl h))
      · exact .inl (.inr h)
      · exact .inl (.inl (.inr h))
      · exact .inr h
theorem gathL_iff (cls:List (List Nat)) (sup:Nat) (ifs:List Nat) (i:Nat):i∈gathL cls sup ifs↔i∈cls.getD sup []∨∃ x∈ifs,i=x∨i∈cls.getD x []:=by
  rw [gathL,gathF_iff,takeL_iff];simp
theorem gathL_nodup (cls:List (List Nat)) (sup:Nat) (ifs:List Nat):(gathL cls sup ifs).Nodup:=by
  have key:∀ (l:List Nat) (c:List Nat),c.Nodup→(l.foldl (gathF cls) c).Nodup:=by
    intro l
    induction l with
    | nil=>exact fun c h=>h
    | cons x l ih=>exact fun c h=>ih _ (takeL_nodup _ _ (takeL_nodup _ _ h))
  exact key _ _ (takeL_nodup _ _ (by simp))
theorem getD_cl (ns:List Nd) (k:Nat):(ns.map Nd.cl).getD k []=clO ns k:=by
  rw [List.getD_eq_getElem?_getD,List.getElem?_map,clO]
  cases ns[k]? <;> rfl
theorem WO.snoc {ns:List Nd} (h:WO ns) (ib:Bool) (s:Nat) (ifs:List Nat) (hs:∃ p,ns[s]?=some p∧p.i=false) (hi:ib=true→s=0) (hif:∀ x∈ifs,∃ p,ns[x]?=some p∧p.i=true) :
    WO (ns++[⟨ib,s,gathL (ns.map Nd.cl) s ifs⟩]):=by
  obtain ⟨ps,hps,hpi⟩:=hs
  have hsl:=(List.getElem?_eq_some_iff.1 hps).1
  have old:∀ (k:Nat) (n:Nd),(ns++[(⟨ib,s,gathL (ns.map Nd.cl) s ifs⟩:Nd)])[k]?=some n→(k<ns.length∧ns[k]?=some n)∨(k=ns.length∧n=⟨ib,s,gathL (ns.map Nd.cl) s ifs⟩):=by
    intro k n hk
    by_cases hl:k<ns.length
    · rw [List.getElem?_append_left hl] at hk;exact .inl ⟨hl,hk⟩
    · rw [List.getElem?_append_right (by omega)] at hk
      by_cases he:k=ns.length
      · subst he;simp at hk;exact .inr ⟨rfl,hk.symm⟩
      · rw [List.getElem?_eq_none (by simp;omega)] at hk;cases hk
  have up:∀ (k:Nat) (p:Nd),ns[k]?=some p→(ns++[(⟨ib,s,gathL (ns.map Nd.cl) s ifs⟩:Nd)])[k]?=some p:=fun k p hk=>by
    rw [List.getElem?_append_left (List.getElem?_eq_some_iff.1 hk).1];exact hk
  have mem:∀ i,i∈gathL (ns.map Nd.cl) s ifs↔i∈clO ns s∨∃ x∈ifs,i=x∨i∈clO ns x:=fun i=>by rw [gathL_iff,getD_cl];simp only [getD_cl]
  refine ⟨?_,?_,?_⟩
  · obtain ⟨n,h1,h2⟩:=h.top
    exact ⟨n,up _ _ h1,h2⟩
  · intro k n h0 hk
    rcases old k n hk with ⟨hl,hk⟩|⟨rfl,rfl⟩
    · obtain ⟨h1,h2,h3⟩:=h.sp k n h0 hk
      refine ⟨h1,fun p hp=>?_,h3⟩
      rw [List.getElem?_append_left (by omega)] at hp
      exact h2 p hp
    · refine ⟨hsl,fun p hp=>?_,hi⟩
      rw [List.getElem?_append_left hsl,hps] at hp
      cases hp
      refine ⟨hpi,fun i hc=>(mem i).2 (.inl ?_)⟩
      rw [clO,hps];exact hc
  · intro k n hk
    rcases old k n hk with ⟨hl,hk⟩|⟨rfl,rfl⟩
    · obtain ⟨h1,h2⟩:=h.cl k n hk
      refine ⟨h1,fun i hc=>?_⟩
      obtain ⟨h3,p,hp,h4⟩:=h2 i hc
      exact ⟨h3,p,up _ _ hp,h4⟩
    · refine ⟨gathL_nodup _ _ _,fun i hc=>?_⟩
      rcases (mem i).1 hc with hc|⟨x,hx,rfl|hc⟩
      · obtain ⟨h1,h2,p,hp,h3,h4⟩:=cl_facts h hc
        exact ⟨by omega,p,up _ _ hp,h3,fun j hj=>(mem j).2 (.inl (h4 j hj))⟩
      · obtain ⟨p,hp,h3⟩:=hif i hx
        refine ⟨(List.getElem?_eq_some_iff.1 hp).1,p,up _ _ hp,h3,fun j hj=>(mem j).2 (.inr ⟨i,hx,.inr ?_⟩)⟩
        rw [clO,hp];exact hj
      · obtain ⟨h1,h2,p,hp,h3,h4⟩:=cl_facts h hc
        exact ⟨by omega,p,up _ _ hp,h3,fun j hj=>(mem j).2 (.inr ⟨x,hx,.inr (h4 j hj)⟩)⟩
def nd (q:Plc):Nd:=⟨ifB q.c.fl,q.sp,q.cl⟩
theorem nhas_at {l:List Nat} {p:Nat} (k:Nat) (x:Nat) (h:l[k]?=some x):(l.drop k).contains p=((p == x)||(l.drop (k+1)).contains p):=by
  obtain ⟨h1,h2⟩:=List.getElem?_eq_some_iff.1 h
  rw [List.drop_eq_getElem_cons h1,h2,List.contains_cons]
set_option maxHeartbeats 1000000 in
theorem nIndex_any (v:Value) (l:List Nat) (p:Nat) (W:World) (h:Rds W v l.length 1 (l.map numV)) (hl:l.length≤1000000) :
    Calls Tryz.prog 119 #[v,.int .i64 (p:Int)] W fun e w'=>(∃ i:Int,e=.returned (.int .i64 i)∧decide (0≤i)=l.contains p)∧Below W.heap.size W w':=by
  obtain ⟨av,cv,rfl⟩:=h.slice
  have HV:Hid (Rds W (.slice av l.length cv) l.length 1 (l.map numV)):=h
  obtain ⟨N,hN⟩:∃ N,l.length=N:=⟨_,rfl⟩
  rw [hN] at hl ⊢
  have HN1:Hid (l.length=N):=hN
  clear hN h
  go_enter Tryz.func119,Tryz.ntmps119
  go_wp2
  go_loopw [8] (fun iv wr=>∃ i:Nat,iv=.int .i64 i∧i≤N∧Hid (Below W.heap.size W wr)∧Hid ((l.drop i).contains p=l.contains p)) (fun iv _=>N - (intOf iv).toNat)
  case atStart=>exact ⟨0,rfl,Nat.zero_le _,Below.refl _ _,rfl⟩
  case round =>
    obtain ⟨i,rfl,hi,hb,hs⟩:=hrel
    by_cases hlt:i<N
    · obtain ⟨x,hx⟩:∃ x,l[i]?=some x:=⟨_,List.getElem?_eq_getElem (by rw [HN1.out];exact hlt)⟩
      obtain ⟨bk,o,rfl,hbk,hcell⟩:∃ bk o,av=some ⟨bk,o,none⟩∧bk<W.heap.size∧W.cell? ⟨bk,o+i,none⟩=some (.int .i64 (x:Int)):=by
        rcases HV.out.val with ⟨_,e2⟩|⟨bk,o,c,e,_,_,h3,h4⟩
        · rw [HN1.out] at e2;omega
        · simp only [Value.slice.injEq] at e
          exact ⟨bk,o,e.1,h3,h4 i _ (by rw [List.getElem?_map,hx];rfl)⟩
      have hst:=nhas_at (p:=p) i x hx
      rw [hs.out] at hst
      have p0:=(hb.out.cell hbk).trans hcell
      clear hs hx hcell
      by_cases hq:p=x
      · subst hq
        have HZ:Hid (l.contains p=true):=by rw [Hid,hst];simp
        clear hst
        go_wp2
        all_goals (try go_quiet (fail))
        all_goals (try go_wp2)
        go_ret
        exact ⟨⟨i,rfl,by rw [HZ.out];simp⟩,by first|exact hb.out|exact below_drewN hb.out _⟩
      · have HZ:Hid ((l.drop (i+1)).contains p=l.contains p):=by rw [Hid,hst];simp [hq]
        have hq2:¬ (p:Int)=(x:Int):=by omega
        clear hst
        go_wp2
        all_goals (try go_quiet (fail))
        all_goals (try go_wp2)
        go_roundw
        case rel=>exact ⟨i+1,by go_num,by omega,by first|exact hb|exact below_drewN hb.out _,HZ⟩
        case measure=>simp [intOf];omega
    · have e:i=N:=by omega
      subst e
      have HZ:Hid (l.contains p=false):=by rw [Hid,← hs.out,List.drop_of_length_le (by rw [HN1.out];exact Nat.le_refl _)];rfl
      clear hs
      go_wp2
      go_ret
      exact ⟨⟨-1,rfl,by rw [HZ.out];rfl⟩,hb.out⟩
theorem nContains_any (v:Value) (l:List Nat) (p:Nat) (W:World) (h:Rds W v l.length 1 (l.map numV)) (hl:l.length≤1000000) :
    Calls Tryz.prog 78 #[v,.int .i64 (p:Int)] W fun e w'=>e=.returned (.bool (l.contains p))∧Below W.heap.size W w':=by
  have HI:Hid (Calls Tryz.prog 119 #[v,.int .i64 (p:Int)] W fun e w'=>(∃ i:Int,e=.returned (.int .i64 i)∧Hid (decide (0≤i)=l.contains p))∧Below W.heap.size W w'):=nIndex_any v l p W h hl
  clear h hl
  generalize l.contains p=z at *
  go_enter Tryz.func78,Tryz.ntmps78
  go_wp2_with (go_at_call 119;refine HI.out.mono ?_;rintro e w1 ⟨⟨i,rfl,hi⟩,hb⟩;have B1:Hid _:=hb;clear hb HI)
  go_ret
  exact ⟨by rw [← hi.out];rfl,B1.out⟩
def tyC (t:Int×ByteArray):List Value:=[.int .i64 t.1,.string t.2]
def flatT (ts:List (Int×ByteArray)):List Value:=ts.flatMap tyC
def natT (t:Nat×List UInt8):Int×ByteArray:=((t.1:Int),⟨t.2.toArray⟩)
theorem flatT_at (ts:List (Int×ByteArray)) (k:Nat) (t:Int×ByteArray) (h:ts[k]?=some t):(flatT ts)[k * 2]?=some (.int .i64 t.1)∧(flatT ts)[k * 2+1]?=some (.string t.2):=by
  induction ts generalizing k with
  | nil=>simp at h
  | cons u ts ih =>
    have e:flatT (u::ts)=.int .i64 u.1::.string u.2::flatT ts:=by simp [flatT,tyC]
    rw [e]
    cases k with
    | zero=>simp at h;subst h;exact ⟨rfl,rfl⟩
    | succ k =>
      simp at h
      obtain ⟨h1,h2⟩:=ih k h
      rw [show (k+1) * 2=k * 2+1+1 by omega]
      simp only [List.getElem?_cons_succ]
      exact ⟨h1,h2⟩
def IsTys (w:World) (v:Value) (ts:List (Int×ByteArray)):Prop :=
  ∃ ao cap,v=.slice ao ts.length cap∧ts.length≤cap∧cap≤maxLen ∧
    (ts≠[]→∃ bk o,ao=some ⟨bk,o,none⟩∧bk<w.heap.size∧∀ k t,ts[k]?=some t→w.cell? ⟨bk,o+k * 2,none⟩=some (.int .i64 t.1)∧w.cell? ⟨bk,o+k * 2+1,none⟩=some (.string t.2))
theorem own_tys {w:World} {base:Nat} {v:Value} {ts:List (Int×ByteArray)} (h:w.ownsRow base 24 2 v ts.length (flatT ts)):IsTys w v ts:=by
  have h':=h
  rcases h.2 with ⟨rfl,h0⟩|⟨g,cap,cur,rfl,hb,hg,hn,hm,_,_⟩
  · have:ts=[]:=List.length_eq_zero_iff.1 h0
    subst this
    exact ⟨none,0,rfl,Nat.le_refl _,by unfold maxLen;omega,fun h=>absurd rfl h⟩
  · refine ⟨_,cap,rfl,hn,hm,fun _=>⟨g,0,rfl,(Array.getElem?_eq_some_iff.1 hg).1,fun k t hk=>?_⟩⟩
    have hlt:k<ts.length:=(List.getElem?_eq_some_iff.1 hk).1
    obtain ⟨e1,e2⟩:=flatT_at ts k t hk
    rw [Nat.zero_add]
    exact ⟨by rw [h'.cellAt (k * 2) (by omega)];exact e1,by rw [h'.cellAt (k * 2+1) (by omega)];exact e2⟩
def raf (l:List UInt8):Option (List (Nat×List UInt8)×List UInt8):=readArgs (l.length+1) l
theorem readArgs_fuel (f:Nat) (l:List UInt8) (h:l.length<f):readArgs f l=raf l:=by
  unfold raf
  generalize hn:l.length=n at *
  induction n using Nat.strongRecOn generalizing f l with
  | _ n ih =>
    cases f with
    | zero=>omega
    | succ f =>
      cases l with
      | nil=>simp [readArgs]
      | cons c l =>
        rw [readArgs,readArgs]
        split
        · rfl
        · cases e:readT (c::l) with
          | none=>rfl
          | some p =>
            obtain ⟨t,r⟩:=p
            have hr:=readT_less e
            simp only
            rw [ih r.length (by omega) f r rfl (by omega),ih r.length (by omega) n r rfl (by omega)]
theorem raf_nil:raf []=none:=rfl
theorem raf_end (l:List UInt8):raf (41::l)=some ([],l):=by simp [raf,readArgs]
theorem raf_step {c:UInt8} {l r:List UInt8} {t:Nat×List UInt8} (hc:c≠41) (h:readT (c::l)=some (t,r)):raf (c::l)=(raf r).map (fun p=>(t::p.1,p.2)):=by
  have hr:=readT_less h
  rw [raf,readArgs,if_neg hc,h]
  simp only
  rw [readArgs_fuel _ r (by simpa using hr)]
  cases raf r <;> rfl
theorem raf_bad {c:UInt8} {l:List UInt8} (hc:c≠41) (h:readT (c::l)=none):raf (c::l)=none:=by
  rw [raf,readArgs,if_neg hc,h]
theorem read_drop {l:List UInt8} {q:Nat} {t:Nat×List UInt8} {r:List UInt8} (h:readT (l.drop q)=some (t,r)):r=l.drop (l.length - r.length)∧q<l.length - r.length∧r.length≤l.length:=by
  have hw:=(write_read h).1
  have hl:=readT_less h
  rw [List.length_drop] at hl
  refine ⟨?_,by omega,by omega⟩
  have e2:l=l.take q++(writeT t++r):=by rw [← hw,List.take_append_drop]
  have e3:l.length - r.length=(l.take q++writeT t).length:=by
    have:=congrArg List.length e2
    simp only [List.length_append] at this ⊢
    omega
  rw [e3]
  have key:∀ a b r:List UInt8,(a++(b++r)).drop ((a++b).length)=r:=fun a b r=>by rw [← List.append_assoc,List.drop_left]
  have k2:=key (l.take q) (writeT t) r
  rw [← e2] at k2
  exact k2.symm
def argsOf:List UInt8→Option (List (Nat×List UInt8)×List UInt8)
  | 40::r=>raf r
  | _=>none
theorem Tryz.info24:(Tryz.prog.info? 24).map (fun i=>(i.zero,i.size,i.bytes))=some (some (.agg #[.int .i64 0,.string ⟨#[]⟩]),2,24):=by kernel_rfl
structure Ra (W:World) (b:Nat) (s:ByteArray) (q:Nat) (v:Value) (ts:List (Nat×List UInt8)) (wr:World):Prop where
  cur:Cur wr b s q
  own:wr.ownsRow W.heap.size 24 2 v ts.length (flatT (ts.map natT))
  gr:W.grownBy wr (some b)
  hb:b<W.heap.size
  le:q≤s.size
  tl:ts.length≤q
theorem Ra.step {W wr w1:World} {b:Nat} {s:ByteArray} {q q':Nat} {v:Value} {ts:List (Nat×List UInt8)} (h:Ra W b s q v ts wr) (hc:Cur w1 b s q') (hg:wr.grownBy w1 (some b)) (hq:q'≤s.size) (hqq:q≤q'):Ra W b s q' v ts w1 :=
  ⟨hc,h.own.kept hg (.inr (fun e=>by have:=(h.own.lt b e).1;have:=h.hb;omega)),grownBy_trans h.gr hg (fun _ e=>.inl e),h.hb,hq,Nat.le_trans h.tl hqq⟩
theorem Ra.app {W wr w2:World} {b:Nat} {s:ByteArray} {q:Nat} {v v':Value} {ts:List (Nat×List UInt8)} {k:Nat} {nm:List UInt8} (o1 o2:Obj) (h:Ra W b s q v ts wr) (hlt:ts.length<q)
    (ho:w2.ownsRow W.heap.size 24 2 v' (ts.length+1) (flatT (ts.map natT)++[.int .i64 k,.string ⟨nm.toArray⟩])) (hg:((wr.alloc o1).alloc o2).grownBy w2 v.ownBlock):Ra W b s q v' (ts++[(k,nm)]) w2:=by
  have hbel:Below wr.heap.size wr ((wr.alloc o1).alloc o2):=((Below.refl _ _).alloc (Nat.le_refl _) _).alloc (by simp) _
  have hbn:some b≠v.ownBlock:=fun e=>by have:=(h.own.lt b e.symm).1;have:=h.hb;omega
  refine ⟨?_,?_,?_,h.hb,h.le,by simp;omega⟩
  · have hc:=h.cur.keep hbel
    unfold Cur at *
    rw [hg.block b (Array.getElem?_eq_some_iff.1 hc).1 hbn]
    exact hc
  · have e:flatT ((ts++[(k,nm)]).map natT)=flatT (ts.map natT)++[.int .i64 k,.string ⟨nm.toArray⟩]:=by simp [flatT,tyC,natT]
    rw [e,List.length_append]
    exact ho
  · exact grownBy_trans (grownBy_trans h.gr (grownBy_below hbel (r:=some b)) (fun _ e=>.inl e)) hg (fun x e=>.inr (h.own.lt x e).1)
theorem two_new (w:World) (x y:Value) (t:TypeId):∀ j u,[x,y][j]?=some u→(w.alloc (.cells #[x,y] t)).cell? ((⟨w.heap.size,0,none⟩:Addr).add j)=some u:=by
  intro j u hj
  match j,hj with
  | 0,hj=>simp at hj;subst hj;rw [Addr.add_lit,cell_of_row _ w.heap.size 0 _ t (0,0) (heap_alloc_new w _)];rfl
  | 1,hj=>simp at hj;subst hj;rw [Addr.add_lit,cell_of_row _ w.heap.size 1 _ t (0,0) (heap_alloc_new w _)];rfl
theorem two_new2 (w:World) (o:Obj) (x y:Value) (t:TypeId):∀ j u,[x,y][j]?=some u→((w.alloc o).alloc (.cells #[x,y] t)).cell? ((⟨w.heap.size+1,0,none⟩:Addr).add j)=some u:=by
  intro j u hj
  have h:=two_new (w.alloc o) x y t j u hj
  rw [show (w.alloc o).heap.size=w.heap.size+1 by simp] at h
  exact h
def ArgPost (s:ByteArray) (pl b:Nat) (W:World) (e:Ending) (w':World):Prop:=match argsOf (s.data.toList.drop pl) with
  | some (ts,r)=>∃ v,e=.returned (.tuple #[v,.bool true])∧w'.ownsRow W.heap.size 24 2 v ts.length (flatT (ts.map natT))∧Cur w' b s (s.size - r.length)
  | none=>e=.returned (.tuple #[.slice none 0 0,.bool false])∧∃ q,q≤s.size∧Cur w' b s q
theorem apost_none {s:ByteArray} {pl b q:Nat} {W w':World} (h:argsOf (s.data.toList.drop pl)=none) (hq:q≤s.size) (hc:Cur w' b s q):ArgPost s pl b W (.returned (.tuple #[.slice none 0 0,.bool false])) w':=by
  unfold ArgPost;rw [h];exact ⟨rfl,q,hq,hc⟩
theorem apost_some {s:ByteArray} {pl b q:Nat} {W w':World} {ts:List (Nat×List UInt8)} {r:List UInt8} {v:Value} (h:argsOf (s.data.toList.drop pl)=some (ts,r)) (hp:q=s.size - r.length)
    (ho:w'.ownsRow W.heap.size 24 2 v ts.length (flatT (ts.map natT))) (hc:Cur w' b s q):ArgPost s pl b W (.returned (.tuple #[v,.bool true])) w':=by
  unfold ArgPost;rw [h];rw [hp] at hc;exact ⟨v,rfl,ho,hc⟩
theorem argsOf_open {s:ByteArray} {pl:Nat} (h:nxt s pl 40=true):argsOf (s.data.toList.drop pl)=raf (s.data.toList.drop (pl+1)):=by
  have hlt:=nxt_true h
  rw [nxt_lt s pl 40 hlt] at h
  rw [drop_cons s pl hlt]
  simp at h
  rw [h];rfl
theorem argsOf_shut {s:ByteArray} {pl:Nat} (h:nxt s pl 40=false):argsOf (s.data.toList.drop pl)=none:=by
  by_cases hlt:pl<s.size
  · rw [nxt_lt s pl 40 hlt] at h
    rw [drop_cons s pl hlt]
    simp at h
    unfold argsOf
    split
    · rename_i e;simp at e;exact absurd e.1 h
    · rfl
  · rw [drop_end s pl (by omega)];rfl
set_option maxHeartbeats 4000000 in
theorem readArgs_any (b:Nat) (s:ByteArray) (pl:Nat) (hpl:pl≤s.size) (hs:s.size≤1000000) (W:World) (hc:Cur W b s pl) :
    Calls Tryz.prog 202 #[.pointer (some ⟨b,0,none⟩)] W fun e w'=>ArgPost s pl b W e w'∧W.grownBy w' (some b):=by
  obtain ⟨i24,hi24,hz0,hz1,hz2⟩:=info_parts Tryz.info24
  have HS:Hid (∀ (m:UInt8) (q:Nat) (v:Value) (ts:List (Nat×List UInt8)) (w:World),Hid (Ra W b s q v ts w)→Calls Tryz.prog 203 #[.pointer (some ⟨b,0,none⟩),.string ⟨#[m]⟩] w fun e w'=>e=.returned (.bool (nxt s q m))∧Hid (Ra W b s (if nxt s q m then q+1 else q) v ts w')) :=
    fun m q v ts w h=>(skip_any b s q m h.out.le hs w h.out.cur).mono fun e w' ⟨he,hc,hg⟩=>⟨he,h.out.step hc hg (by
      have:=h.out.le
      split
      · rename_i e;have:=nxt_true e;omega
      · exact this) (by split <;> omega)⟩
  have HT:∀ (q:Nat) (v:Value) (ts:List (Nat×List UInt8)) (w:World),Hid (Ra W b s q v ts w)→Calls Tryz.prog 204 #[.pointer (some ⟨b,0,none⟩)] w fun e w'=>TypePost s q b e w'∧w.grownBy w' (some b) :=
    fun q v ts w h=>readType_any b s q h.out.le hs w h.out.cur
  have H0:Hid (Ra W b s pl (.slice none 0 0) [] W):=⟨hc,World.ownsRow_nil _ _ _ _,⟨rfl,rfl,rfl,Nat.le_refl _,fun _ _ _=>rfl⟩,hc.cells.2.2.2,hpl,Nat.zero_le _⟩
  have hsz:s.data.toList.length=s.size:=by simp
  have HSZ:Hid _:=hsz
  clear hsz hc
  cases h40:nxt s pl 40 with
  | false =>
    have HP:Hid _:=argsOf_shut h40
    clear HT
    go_enter Tryz.func202,Tryz.ntmps202
    go_wp2
    go_step3
    go_wp2_with (go_at_call 203;refine (HS.out _ _ _ _ _ H0).mono ?_;rintro e w1 ⟨rfl,R1⟩;rw [h40,if_neg Bool.false_ne_true] at R1)
    try rw [Exit.noGoto_ret]
    go_ret2
    exact ⟨apost_none HP.out R1.out.le R1.out.cur,R1.out.gr⟩
  | true =>
    have HO:Hid _:=argsOf_open h40
    go_enter Tryz.func202,Tryz.ntmps202
    go_wp2
    go_step3
    go_wp2_with (go_at_call 203;refine (HS.out _ _ _ _ _ H0).mono ?_;rintro e w1 ⟨rfl,R1⟩;rw [h40,if_pos rfl] at R1)
    go_step3
    go_wp2
    clear H0
    go_loopg [4] (s.size - pl) (fun g v wr=>∃ q ts,q+g=s.size+1∧Hid (Ra W b s q v ts wr)∧Hid (argsOf (s.data.toList.drop pl)=(raf (s.data.toList.drop q)).map (fun p=>(ts++p.1,p.2))))
    case atStart=>exact ⟨pl+1,[],by have:=R1.out.le;omega,R1,by rw [Hid,HO.out];cases raf (s.data.toList.drop (pl+1)) <;> rfl⟩
    case round =>
      clear R1 HO h40
      obtain ⟨q,ts,hg,hR,hA⟩:=hrel
      have hle:=hR.out.le
      have BAD:Hid (nxt s q 41=false→readT (s.data.toList.drop q)=none→argsOf (s.data.toList.drop pl)=none):=by
        intro h1 h2
        rw [hA.out]
        by_cases hlt:q<s.size
        · rw [nxt_lt s q 41 hlt] at h1
          simp at h1
          rw [drop_cons s q hlt] at h2 ⊢
          rw [raf_bad h1 h2];rfl
        · rw [drop_end s q (by omega),raf_nil];rfl
      cases h41:nxt s q 41 with
      | true =>
        have hlt:=nxt_true h41
        have HP:Hid (argsOf (s.data.toList.drop pl)=some (ts,s.data.toList.drop (q+1))):=by
          have h1:=h41
          rw [nxt_lt s q 41 hlt] at h1
          simp at h1
          rw [Hid,hA.out,drop_cons s q hlt,h1,raf_end]
          simp
        have HQ:Hid (q+1=s.size - (s.data.toList.drop (q+1)).length):=by rw [Hid,List.length_drop,HSZ.out];omega
        clear hA BAD HT
        go_wp2_with (go_at_call 203;refine (HS.out _ _ _ _ _ hR).mono ?_;rintro e w1 ⟨rfl,R1⟩;rw [h41,if_pos rfl] at R1)
        try rw [Exit.noGoto_ret]
        go_ret2
        exact ⟨apost_some HP.out HQ.out R1.out.own R1.out.cur,R1.out.gr⟩
      | false =>
        cases hr:readT (s.data.toList.drop q) with
        | none =>
          have HP:Hid _:=BAD.out h41 hr
          have HT':Hid (∀ v w,Hid (Ra W b s q v ts w)→Calls Tryz.prog 204 #[.pointer (some ⟨b,0,none⟩)] w fun e w'=>e=.returned (.tuple #[.agg #[.int .i64 0,.string ⟨#[]⟩],.bool false])∧Hid (∃ q',q'≤s.size∧Cur w' b s q'∧W.grownBy w' (some b))):=fun v w h =>
            (HT q v ts w h).mono fun e w' ⟨hp,hgr⟩=>by
              unfold TypePost at hp
              rw [hr] at hp
              obtain ⟨he,q',hq',hc'⟩:=hp
              exact ⟨he,q',hq',hc',grownBy_trans h.out.gr hgr (fun _ e=>.inl e)⟩
          clear hA BAD HT hr
          go_wp2_with (first
            | (go_at_call 203;refine (HS.out _ _ _ _ _ hR).mono ?_;rintro e w1 ⟨rfl,R1⟩;rw [h41,if_neg Bool.false_ne_true] at R1)
            | (go_at_call 204;refine (HT'.out _ _ R1).mono ?_;rintro e w2 ⟨rfl,R2⟩))
          try rw [Exit.noGoto_ret]
          go_ret2
          obtain ⟨q',hq',hc',hg'⟩:=R2.out
          exact ⟨apost_none HP.out hq' (hc'.keep ((Below.refl _ _).alloc (Nat.le_refl _) _)),grownBy_trans hg' (grownBy_below ((Below.refl _ _).alloc (Nat.le_refl _) _) (r:=some b)) (fun _ e=>.inl e)⟩
        | some p =>
          obtain ⟨⟨k,nm⟩,r⟩:=p
          obtain ⟨hrd,hrq,hrl⟩:=read_drop hr
          rw [HSZ.out] at hrd hrq hrl
          have HA:Hid (argsOf (s.data.toList.drop pl)=(raf (s.data.toList.drop (s.size - r.length))).map (fun p=>((ts++[(k,nm)])++p.1,p.2))):=by
            have hlt:q<s.size:=by omega
            have h1:=h41
            rw [nxt_lt s q 41 hlt] at h1
            simp at h1
            have h2:=hr
            rw [drop_cons s q hlt] at h2
            rw [Hid,hA.out,drop_cons s q hlt,raf_step h1 h2,← hrd]
            cases raf r <;> simp
          have HT':Hid (∀ v w,Hid (Ra W b s q v ts w)→Calls Tryz.prog 204 #[.pointer (some ⟨b,0,none⟩)] w fun e w'=>e=.returned (.tuple #[.agg #[.int .i64 k,.string ⟨nm.toArray⟩],.bool true])∧Hid (Ra W b s (s.size - r.length) v ts w')):=fun v w h =>
            (HT q v ts w h).mono fun e w' ⟨hp,hgr⟩=>by
              unfold TypePost at hp
              rw [hr] at hp
              exact ⟨hp.1,h.out.step hp.2 hgr (by omega) (by omega)⟩
          have htl:=hR.out.tl
          have hWs:=hR.out.gr.size
          obtain ⟨z,hz⟩:∃ z,s.size - r.length=z:=⟨_,rfl⟩
          rw [hz] at HA HT' hrq
          have hzs:z≤s.size:=by omega
          clear hA BAD HT hr hrd hrl hz
          go_wp2_with (first
            | (go_at_call 203;refine (HS.out _ _ _ _ _ hR).mono ?_;rintro e w1 ⟨rfl,R1⟩;rw [h41,if_neg Bool.false_ne_true] at R1)
            | (go_at_call 204;refine (HT'.out _ _ R1).mono ?_;rintro e w2 ⟨rfl,R2⟩;have hW2:=R2.out.gr.size)
            | (at_builtin;refine wpList_append_own _ rfl _ _ 66 rfl W.heap.size 24 i24 (.agg #[.int .i64 0,.string ⟨#[]⟩]) 2 24 Tryz.underlying66 hi24 hz0 hz1 hz2 rfl (by decide) _ _ _ rfl ((R2.out.own.alloc _).alloc _) ⟨w2.heap.size+1,0,none⟩ 1 1 [.int .i64 k,.string ⟨nm.toArray⟩] rfl rfl ?c1 ?c2 ?c3 ?c4 ?c5 ?_))
          case c1=>exact two_new2 w2 _ _ _ _
          case c2=>intro u hu;simp at hu;rcases hu with rfl|rfl <;> rfl
          case c3=>unfold maxLen;omega
          case c4=>omega
          case c5=>simp;omega
          · intro v' w3 hown' hgrow _
            have R3:Hid (Ra W b s z v' (ts++[(k,nm)]) w3):=Ra.app _ _ R2.out (by omega) hown' hgrow
            clear hown' hgrow R2 R1 hR
            go_wp2
            go_roundg (s.size+1 - z)
            case measure=>omega
            case rel=>exact ⟨z,ts++[(k,nm)],by omega,R3,HA⟩
end Go.Proofs.YtkclpcmkplbclaaGreat
