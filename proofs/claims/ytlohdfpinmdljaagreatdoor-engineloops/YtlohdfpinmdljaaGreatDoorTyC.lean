import Derived.Test.YtlohdfpinmdljaaGreatDoorOwnParse
import Derived.Test.YtlohdfpinmdljaaGreatDoorHrR
import Derived.Test.YtlohdfpinmdljaaGreatDoorCurB
import Derived.BigQuiet
import Derived.Deep.QuietTactic
import Derived.Laws.IdiomStrings
set_option maxRecDepth 100000
namespace Go.Proofs.YtlohdfpinmdljaaGreatDoor
open Go.RowKit
def deepI (t:Int×ByteArray):Bool:=decide (255<t.1)
set_option maxHeartbeats 1000000 in
theorem indexFunc_any (v:Value) (ts:List (Int×ByteArray)) (W:World) (h:IsTys W v ts) :
    Calls Tryz.prog 71 #[v,.func (.func 40) #[] #[]] W fun e w'=>(∃ i:Int,e=.returned (.int .i64 i)∧decide (0≤i)=ts.any deepI)∧Below W.heap.size W w':=by
  obtain ⟨ao,cap,rfl,h1,h2,h3⟩:=h
  unfold maxLen at h2
  have H3:Hid _:=h3
  clear h3
  have HD:Hid (∀ (d:Int) (n:ByteArray) (w:World),_):=isDeep_any
  go_enter Tryz.func71,Tryz.ntmps71
  go_wp2
  go_loopw [8] (fun iv wr=>∃ i:Nat,iv=.int .i64 i∧i≤ts.length∧Hid (Below W.heap.size W wr)∧Hid ((ts.drop i).any deepI=ts.any deepI)) (fun iv _=>ts.length - (intOf iv).toNat)
  case atStart=>exact ⟨0,rfl,Nat.zero_le _,Below.refl _ _,rfl⟩
  case round =>
    obtain ⟨i,rfl,hi,hb,ha⟩:=hrel
    by_cases hlt:i<ts.length
    · obtain ⟨bk,o,hao,hbk,hc⟩:=H3.out (by intro e;rw [e] at hlt;simp at hlt)
      obtain ⟨⟨d,n⟩,ht⟩:∃ t,ts[i]?=some t:=⟨_,List.getElem?_eq_getElem hlt⟩
      subst hao
      obtain ⟨c0,c1⟩:=hc i _ ht
      have k0:wr.cell? ⟨bk,o+i * 2,none⟩=some (.int .i64 d):=(hb.out.cell (p:=⟨bk,o+i * 2,none⟩) hbk).trans c0
      have k1:wr.cell? ⟨bk,o+i * 2+1,none⟩=some (.string n):=(hb.out.cell (p:=⟨bk,o+i * 2+1,none⟩) hbk).trans c1
      have hdr:ts.drop i=(d,n)::ts.drop (i+1):=by
        rw [List.drop_eq_getElem_cons hlt]
        rw [List.getElem?_eq_getElem hlt] at ht
        rw [Option.some.inj ht]
      have HI:Hid (∀ w,_):=HD.out d n
      by_cases hd:255<d
      · have HA:Hid (ts.any deepI=true):=by rw [Hid,← ha.out,hdr];simp [deepI,hd]
        have hdd:decide (255<d)=true:=by simpa using hd
        rw [hdd] at HI
        clear hc c0 c1 H3 HD hdr ht ha hd hdd
        go_wp2_with (go_at_call 40;refine (HI.out _).mono ?_;rintro e w1 ⟨rfl,hb1⟩)
        go_ret
        exact ⟨⟨i,rfl,by rw [HA.out];simp⟩,Below.step hb.out hb1⟩
      · have HA:Hid ((ts.drop (i+1)).any deepI=ts.any deepI):=by rw [Hid,← ha.out,hdr];simp [deepI,hd]
        have hdd:decide (255<d)=false:=by simpa using hd
        rw [hdd] at HI
        clear hc c0 c1 H3 HD hdr ht ha hd hdd
        go_wp2_with (go_at_call 40;refine (HI.out _).mono ?_;rintro e w1 ⟨rfl,hb1⟩;have hb2:Hid (Below W.heap.size W w1):=Below.step hb.out hb1;clear hb1)
        go_roundw
        case rel=>exact ⟨i+1,by go_num,by omega,hb2,HA⟩
        case measure=>simp [intOf];omega
    · have HA:Hid (ts.any deepI=false):=by rw [Hid,← ha.out,List.drop_of_length_le (by omega)];rfl
      clear H3 HD ha
      go_wp2
      go_ret
      exact ⟨⟨-1,rfl,by rw [HA.out];rfl⟩,hb.out⟩
set_option maxHeartbeats 400000 in
theorem contains_any (v:Value) (ts:List (Int×ByteArray)) (W:World) (h:IsTys W v ts) :
    Calls Tryz.prog 41 #[v,.func (.func 40) #[] #[]] W fun e w'=>e=.returned (.bool (ts.any deepI))∧Below W.heap.size W w':=by
  have HI:Hid (Calls Tryz.prog 71 #[v,.func (.func 40) #[] #[]] W fun e w'=>(∃ i:Int,e=.returned (.int .i64 i)∧Hid (decide (0≤i)=ts.any deepI))∧Below W.heap.size W w'):=indexFunc_any v ts W h
  obtain ⟨ao,cap,rfl,_⟩:=h
  go_enter Tryz.func41,Tryz.ntmps41
  go_wp2_with (go_at_call 71;refine (HI.out).mono ?_;rintro e w1 ⟨⟨i,rfl,hi⟩,hb1⟩)
  go_ret
  exact ⟨ret_bool hi.out,hb1⟩
theorem descOf_readD (l:List UInt8):readD l=match descOf l with
    | some (d,[])=>some d
    | _=>none:=by
  unfold readD descOf
  split
  · rename_i r
    have ha:argsOf (40::r)=readArgs (r.length+1) r:=rfl
    rw [ha]
    cases e:readArgs (r.length+1) r with
    | none=>rfl
    | some p =>
      obtain ⟨ts,q⟩:=p
      simp only
      by_cases h86:q.head?=some 86
      · rw [if_pos h86]
        cases q with
        | nil=>simp at h86
        | cons c q =>
          simp at h86
          subst h86
          cases q with
          | nil=>rfl
          | cons c2 q2 =>
            have hr:readT (86::c2::q2)=none:=by simp [readT,bracks]
            simp [readRet,hr]
      · rw [if_neg h86]
        have hne:q≠[86]:=fun z=>by rw [z] at h86;exact h86 rfl
        unfold readRet
        rw [if_neg hne]
        cases hr:readT q with
        | none=>rfl
        | some p =>
          obtain ⟨t,r2⟩:=p
          cases r2 <;> rfl
  · rename_i hx
    have ha:argsOf l=none:=by
      unfold argsOf
      split
      · rename_i r;exact absurd rfl (hx r)
      · rfl
    rw [ha]
def largeD (d:List (Nat×List UInt8)×Option (Nat×List UInt8)):Bool:=decide (20<d.1.length)||decide (255<(retT d.2).1)||(d.1.map natT).any deepI
def pdE (l:List UInt8):Int:=if 2000<l.length then 5 else match readD l with
  | none=>4
  | some d=>if largeD d then 5 else 0
def pdD (l:List UInt8):List (Nat×List UInt8)×Option (Nat×List UInt8):=if pdE l=0 then (readD l).getD ([],some (0,[])) else ([],some (0,[]))
def DOut (l:List UInt8) (w:World) (e:Ending) (w':World):Prop :=
  ∃ v,e=.returned (.tuple #[.agg #[v,.bool (voidB (pdD l).2),.int .i64 (retT (pdD l).2).1,.string ⟨(retT (pdD l).2).2.toArray⟩],.int .i64 (pdE l)]) ∧
    w'.ownsRow w.heap.size 71 2 v (pdD l).1.length (flatT ((pdD l).1.map natT))∧Below w.heap.size w w'
theorem dout_err {l:List UInt8} {w w':World} {x:Int} (h:pdE l=x) (hx:x≠0) (hb:Below w.heap.size w w'):DOut l w (.returned (.tuple #[.agg #[.slice none 0 0,.bool false,.int .i64 0,.string ⟨#[]⟩],.int .i64 x])) w':=by
  have e:pdD l=([],some (0,[])):=by rw [pdD,if_neg (by rw [h];exact hx)]
  unfold DOut
  rw [e,h]
  exact ⟨_,rfl,World.ownsRow_nil _ _ _ _,hb⟩
theorem dout_ok {l:List UInt8} {w w':World} {ts:List (Nat×List UInt8)} {x:Option (Nat×List UInt8)} {v:Value} (h:readD l=some (ts,x)) (hl:l.length≤2000) (hg:largeD (ts,x)=false)
    (ho:w'.ownsRow w.heap.size 71 2 v ts.length (flatT (ts.map natT))) (hb:Below w.heap.size w w'):DOut l w (.returned (.tuple #[.agg #[v,.bool (voidB x),.int .i64 (retT x).1,.string ⟨(retT x).2.toArray⟩],.int .i64 0])) w':=by
  have h0:pdE l=0:=by rw [pdE,if_neg (by omega),h];simp [hg]
  have e:pdD l=(ts,x):=by rw [pdD,if_pos h0,h];rfl
  unfold DOut
  rw [e,h0]
  exact ⟨v,rfl,ho,hb⟩
structure Pd (w:World) (s:ByteArray) (q:Nat) (v:Value) (ts:List (Nat×List UInt8)) (w2:World):Prop where
  r:w2.heap[w.heap.size]?=some (.cells zeroD 73 (0,0))
  cur:Cur w2 (w.heap.size+1) s q
  own:w2.ownsRow (w.heap.size+1) 71 2 v ts.length (flatT (ts.map natT))
  bel:Below w.heap.size w w2
theorem Pd.keep {w w2 w3:World} {s:ByteArray} {q:Nat} {v:Value} {ts:List (Nat×List UInt8)} (h:Pd w s q v ts w2) (hb:Below w2.heap.size w2 w3):Pd w s q v ts w3 :=
  ⟨by rw [hb.block _ (Array.getElem?_eq_some_iff.1 h.r).1];exact h.r,h.cur.keep hb,own_below h.own hb (Nat.le_refl _),Below.step h.bel hb⟩
theorem Pd.cells {w wr:World} {s:ByteArray} {q:Nat} {v:Value} {ts:List (Nat×List UInt8)} (h:Pd w s q v ts wr) :
    wr.cell? ⟨w.heap.size,0,none⟩=some (.slice none 0 0)∧wr.cell? ⟨w.heap.size,1,none⟩=some (.bool false)∧wr.cell? ⟨w.heap.size,2,none⟩=some (.int .i64 0)∧wr.cell? ⟨w.heap.size,3,none⟩=some (.string ⟨#[]⟩) ∧
    wr.frozen? ⟨w.heap.size,0,none⟩=false∧wr.frozen? ⟨w.heap.size,1,none⟩=false∧wr.frozen? ⟨w.heap.size,2,none⟩=false∧wr.frozen? ⟨w.heap.size,3,none⟩=false∧w.heap.size+1<wr.heap.size∧w.heap.size<wr.heap.size:=by
  refine ⟨?_,?_,?_,?_,?_,?_,?_,?_,h.cur.cells.2.2.2,Nat.lt_of_succ_lt h.cur.cells.2.2.2⟩
  · rw [cell_of_row _ w.heap.size 0 _ 73 (0,0) h.r];rfl
  · rw [cell_of_row _ w.heap.size 1 _ 73 (0,0) h.r];rfl
  · rw [cell_of_row _ w.heap.size 2 _ 73 (0,0) h.r];rfl
  · rw [cell_of_row _ w.heap.size 3 _ 73 (0,0) h.r];rfl
  all_goals simp [World.frozen?,h.r]
theorem Pd.done {w wr:World} {s:ByteArray} {q:Nat} {v:Value} {ts:List (Nat×List UInt8)} (h:Pd w s q v ts wr) (u0 u1 u2 u3:Value) :
    (set4 wr w.heap.size u0 u1 u2 u3).ownsRow w.heap.size 71 2 v ts.length (flatT (ts.map natT))∧Below w.heap.size w (set4 wr w.heap.size u0 u1 u2 u3):=by
  have hg:=grownBy_set4 wr w.heap.size u0 u1 u2 u3
  exact ⟨own_base (h.own.kept hg (.inr (fun e=>by have:=(h.own.lt _ e).1;omega))) (Nat.le_succ _),h.bel.grown hg h.bel.size (fun k e=>by simp at e;omega)⟩
theorem Pd.first (w:World) (s:ByteArray):Pd w s 0 (.slice none 0 0) [] ((w.alloc (.cells zeroD 73)).alloc (.cells #[.string s,.int .i64 0] 178)):=by
  refine ⟨?_,?_,World.ownsRow_nil _ _ _ _,((Below.refl _ _).alloc (Nat.le_refl _) _).alloc (by simp) _⟩
  · rw [Below.heap_alloc _ _ _ (by simp)];exact heap_alloc_new w _
  · have:=heap_alloc_new (w.alloc (.cells zeroD 73)) (.cells #[.string s,.int .i64 0] 178)
    unfold Cur
    simpa using this
theorem Pd.grown {w w2 w3:World} {s:ByteArray} {q q':Nat} {v v':Value} {ts ts':List (Nat×List UInt8)} (h:Pd w s q v ts w2) (hg:w2.grownBy w3 (some (w.heap.size+1))) (hc:Cur w3 (w.heap.size+1) s q')
    (ho:w3.ownsRow (w.heap.size+1) 71 2 v' ts'.length (flatT (ts'.map natT))):Pd w s q' v' ts' w3 :=
  ⟨by rw [hg.block _ (Array.getElem?_eq_some_iff.1 h.r).1 (by simp)];exact h.r,hc,ho,h.bel.grown hg h.bel.size (fun k e=>by simp at e;omega)⟩
theorem four_new (w:World) (x0 x1 x2 x3:Value) (t:TypeId):(w.alloc (.cells #[x0,x1,x2,x3] t)).cell? ⟨w.heap.size,0,none⟩=some x0∧(w.alloc (.cells #[x0,x1,x2,x3] t)).cell? ⟨w.heap.size,1,none⟩=some x1 ∧
    (w.alloc (.cells #[x0,x1,x2,x3] t)).cell? ⟨w.heap.size,2,none⟩=some x2∧(w.alloc (.cells #[x0,x1,x2,x3] t)).cell? ⟨w.heap.size,3,none⟩=some x3:=by
  refine ⟨?_,?_,?_,?_⟩
  · rw [cell_of_row _ w.heap.size 0 _ t (0,0) (heap_alloc_new w _)];rfl
  · rw [cell_of_row _ w.heap.size 1 _ t (0,0) (heap_alloc_new w _)];rfl
  · rw [cell_of_row _ w.heap.size 2 _ t (0,0) (heap_alloc_new w _)];rfl
  · rw [cell_of_row _ w.heap.size 3 _ t (0,0) (heap_alloc_new w _)];rfl
theorem four_keep {w w':World} {b:Nat} {x0 x1 x2 x3:Value} (h:w.cell? ⟨b,0,none⟩=some x0∧w.cell? ⟨b,1,none⟩=some x1∧w.cell? ⟨b,2,none⟩=some x2∧w.cell? ⟨b,3,none⟩=some x3) (hlt:b<w.heap.size) (hb:Below w.heap.size w w') :
    w'.cell? ⟨b,0,none⟩=some x0∧w'.cell? ⟨b,1,none⟩=some x1∧w'.cell? ⟨b,2,none⟩=some x2∧w'.cell? ⟨b,3,none⟩=some x3 :=
  ⟨(hb.cell (p:=⟨b,0,none⟩) hlt).trans h.1,(hb.cell (p:=⟨b,1,none⟩) hlt).trans h.2.1,(hb.cell (p:=⟨b,2,none⟩) hlt).trans h.2.2.1,(hb.cell (p:=⟨b,3,none⟩) hlt).trans h.2.2.2⟩
set_option maxHeartbeats 4000000 in
theorem parseDesc_any (s:ByteArray) (hs:s.size≤maxLen) (w:World) :
    Calls Tryz.prog 18 #[.string s] w fun e w'=>DOut s.data.toList w e w':=by
  have hlen:s.data.toList.length=s.size:=by simp
  unfold maxLen at hs
  by_cases hbig:2000<s.size
  · have HE:Hid (pdE s.data.toList=5):=by rw [Hid,pdE,if_pos (by rw [hlen];exact hbig)]
    clear hlen
    go_enter Tryz.func18,Tryz.ntmps18
    go_wp2
    exact bodyPost_ret (v:=.tuple #[.agg #[.slice none 0 0,.bool false,.int .i64 0,.string ⟨#[]⟩],.int .i64 5]) (by simp [results,Tryz.results18,go_sem, *]) rfl (dout_err HE.out (by decide) ((Below.refl _ _).alloc (Nat.le_refl _) _))
  · have HR:=readDesc_any (w.heap.size+1) s 0 (Nat.zero_le _) (by omega) _ (Pd.first w s).cur
    have hl2:s.data.toList.length≤2000:=by rw [hlen];omega
    have hE:pdE s.data.toList=match readD s.data.toList with
      | none=>4
      | some d=>if largeD d then 5 else 0:=by rw [pdE,if_neg (by rw [hlen];exact hbig)]
    have HN:Hid (∀ w,_):=newCursor_any s
    have HA:Hid (∀ (q:Nat) (v:Value) (ts:List (Nat×List UInt8)) (w3:World),Hid (Pd w s q v ts w3)→Calls Tryz.prog 39 #[.pointer (some ⟨w.heap.size+1,0,none⟩)] w3 fun e w'=>e=.returned (.bool (decide (q=s.size)))∧Below w3.heap.size w3 w') :=
      fun q v ts w3 h=>atEnd_any (w.heap.size+1) s q w3 h.out.cur
    have hrd:=descOf_readD s.data.toList
    unfold DescPost at HR
    rw [List.drop_zero] at HR
    have hws:((w.alloc (.cells zeroD 73)).alloc (.cells #[.string s,.int .i64 0] 178)).heap.size=w.heap.size+2:=by simp
    cases hr:descOf s.data.toList with
    | none =>
      rw [hr] at hrd HR
      have HE:Hid (pdE s.data.toList=4):=by rw [Hid,hE,hrd]
      have HQ:Hid (Calls Tryz.prog 38 #[.pointer (some ⟨w.heap.size+1,0,none⟩)] ((w.alloc (.cells #[.slice none 0 0,.bool false,.int .i64 0,.string ⟨#[]⟩] 73)).alloc (.cells #[.string s,.int .i64 0] 178)) fun e w'=>e=.returned (.tuple #[.agg #[.slice none 0 0,.bool false,.int .i64 0,.string ⟨#[]⟩],.bool false])∧∃ q,Hid (Pd w s q (.slice none 0 0) [] w')) :=
        HR.mono fun e w' ⟨⟨he,q,_,hc⟩,hg⟩=>⟨he,q,(Pd.first w s).grown hg hc (World.ownsRow_nil _ _ _ _)⟩
      clear hE HR hr hlen hrd hws hl2 HA
      go_enter Tryz.func18,Tryz.ntmps18
      go_wp2_with (first
        | (go_at_call 37;refine ((HN.out) _).mono ?_;rintro e w1 ⟨rfl,rfl⟩)
        | (go_at_call 38;refine (HQ.out).mono ?_;rintro e w2 ⟨rfl,q,hP⟩;obtain ⟨c0,c1,c2,c3,f0,f1,f2,f3,hz,hz'⟩:=hP.out.cells))
      exact bodyPost_ret (v:=.tuple #[.agg #[.slice none 0 0,.bool false,.int .i64 0,.string ⟨#[]⟩],.int .i64 4]) (by simp [results,Tryz.results18,go_sem, *]) rfl (dout_err HE.out (by decide) ((hP.out.done _ _ _ _).2.alloc ((hP.out.done _ _ _ _).2.size) _))
    | some p =>
      obtain ⟨⟨ts,x⟩,r⟩:=p
      rw [hr] at hrd HR
      have HQ:Hid (Calls Tryz.prog 38 #[.pointer (some ⟨w.heap.size+1,0,none⟩)] ((w.alloc (.cells #[.slice none 0 0,.bool false,.int .i64 0,.string ⟨#[]⟩] 73)).alloc (.cells #[.string s,.int .i64 0] 178)) fun e w'=>∃ v,e=.returned (.tuple #[.agg #[v,.bool (voidB x),.int .i64 (retT x).1,.string ⟨(retT x).2.toArray⟩],.bool true])∧Hid (Pd w s (s.size - r.length) v ts w')) :=
        HR.mono fun e w' ⟨⟨v,he,ho,hc⟩,hg⟩=>⟨v,he,(Pd.first w s).grown hg hc (own_base ho (by rw [hws];omega))⟩
      have hrl:r.length≤s.size→r≠[]→decide (s.size - r.length=s.size)=false:=fun h1 h2=>by
        have:0<r.length:=List.length_pos_iff.2 h2
        simp;omega
      cases r with
      | cons c r2 =>
        have HE:Hid (pdE s.data.toList=4):=by rw [Hid,hE,hrd]
        obtain ⟨m,hm⟩:∃ m:Nat,s.size - (c::r2).length=m:=⟨_,rfl⟩
        have hne:decide (m=s.size)=false:=by
          rw [← hm]
          by_cases h0:s.size=0
          · have:s.data.toList=[]:=List.length_eq_zero_iff.1 (by rw [hlen];exact h0)
            rw [this] at hr
            simp [descOf,argsOf] at hr
          · simp;omega
        rw [hm] at HQ
        have HA':Hid (∀ v w3,Hid (Pd w s m v ts w3)→Calls Tryz.prog 39 #[.pointer (some ⟨w.heap.size+1,0,none⟩)] w3 fun e w'=>e=.returned (.bool false)∧Below w3.heap.size w3 w'):=fun v w3 h=>by have:=HA.out m v ts w3 h;rw [hne] at this;exact this
        clear hE HR hr hlen hrd hws hl2 HA hm hne hrl
        generalize (retT x).1=rd at *
        generalize (⟨(retT x).2.toArray⟩:ByteArray)=rn at *
        generalize voidB x=vb at *
        go_enter Tryz.func18,Tryz.ntmps18
        go_wp2_with (first
          | (go_at_call 37;refine ((HN.out) _).mono ?_;rintro e w1 ⟨rfl,rfl⟩)
          | (go_at_call 38;refine (HQ.out).mono ?_;rintro e w2 ⟨v,rfl,hP0⟩;obtain ⟨ao,cap,rfl⟩:=own_slice hP0.out.own;have hP:Hid (Pd w s m (.slice ao ts.length cap) ts (w2.alloc (.cells #[.slice ao ts.length cap,.bool vb,.int .i64 rd,.string rn] 73))):=hP0.out.keep ((Below.refl _ _).alloc (Nat.le_refl _) _);have hz2:=hP0.out.cells.2.2.2.2.2.2.2.2.2)
          | (go_at_call 39;refine (HA'.out _ _ hP).mono ?_;rintro e w3 ⟨rfl,hb3⟩;have hP3:Hid (Pd w s m (.slice ao ts.length cap) ts w3):=hP.out.keep hb3;have hs3:w2.heap.size<w3.heap.size:=(by have:=hb3.size;simp at this;omega);obtain ⟨t0,t1,t2,t3⟩:=four_keep (four_new w2 _ _ _ _ 73) (by simp) hb3;clear hb3;obtain ⟨d0,d1,d2,d3,g0,g1,g2,g3,hy,hy'⟩:=hP3.out.cells))
        exact bodyPost_ret (v:=.tuple #[.agg #[.slice none 0 0,.bool false,.int .i64 0,.string ⟨#[]⟩],.int .i64 4]) (by simp [results,Tryz.results18,go_sem, *]) rfl (dout_err HE.out (by decide) (hP3.out.done _ _ _ _).2)
      | nil =>
        have h0:s.size - ([]:List UInt8).length=s.size:=rfl
        rw [h0] at HQ
        have HA':Hid (∀ v w3,Hid (Pd w s s.size v ts w3)→Calls Tryz.prog 39 #[.pointer (some ⟨w.heap.size+1,0,none⟩)] w3 fun e w'=>e=.returned (.bool true)∧Below w3.heap.size w3 w'):=fun v w3 h=>by have:=HA.out s.size v ts w3 h;simp only [decide_true] at this;exact this
        have HD:Hid (∀ w,_):=isDeep_any (retT x).1 ⟨(retT x).2.toArray⟩
        have HK:Hid (∀ (v:Value) (w4:World),Hid (Pd w s s.size v ts w4)→Calls Tryz.prog 41 #[v,.func (.func 40) #[] #[]] w4 fun e w'=>e=.returned (.bool ((ts.map natT).any deepI))∧Below w4.heap.size w4 w') :=
          fun v w4 h=>contains_any v (ts.map natT) w4 (own_tys (by rw [List.length_map];exact h.out.own))
        have hLE:largeD (ts,x)=true→pdE s.data.toList=5:=fun h=>by rw [hE,hrd];simp [h]
        have hlg:largeD (ts,x)=(decide (20<ts.length)||decide (255<(retT x).1)||(ts.map natT).any deepI):=rfl
        by_cases h20:20<ts.length
        · have HE:Hid (pdE s.data.toList=5):=hLE (by rw [hlg];simp [h20])
          have hdl:decide (20<(ts.length:Int))=true:=by simp;omega
          clear hE HR hr hlen hrd hws hl2 HA hrl h0 hLE hlg HD HK
          generalize (retT x).1=rd at *
          generalize (⟨(retT x).2.toArray⟩:ByteArray)=rn at *
          generalize voidB x=vb at *
          go_enter Tryz.func18,Tryz.ntmps18
          go_wp2_with (first
            | (go_at_call 37;refine ((HN.out) _).mono ?_;rintro e w1 ⟨rfl,rfl⟩)
            | (go_at_call 38;refine (HQ.out).mono ?_;rintro e w2 ⟨v,rfl,hP0⟩;obtain ⟨ao,cap,rfl⟩:=own_slice hP0.out.own;have hP:Hid (Pd w s s.size (.slice ao ts.length cap) ts (w2.alloc (.cells #[.slice ao ts.length cap,.bool vb,.int .i64 rd,.string rn] 73))):=hP0.out.keep ((Below.refl _ _).alloc (Nat.le_refl _) _);have hz2:=hP0.out.cells.2.2.2.2.2.2.2.2.2)
            | (go_at_call 39;refine (HA'.out _ _ hP).mono ?_;rintro e w3 ⟨rfl,hb3⟩;have hP3:Hid (Pd w s s.size (.slice ao ts.length cap) ts w3):=hP.out.keep hb3;have hs3:w2.heap.size<w3.heap.size:=(by have:=hb3.size;simp at this;omega);obtain ⟨t0,t1,t2,t3⟩:=four_keep (four_new w2 _ _ _ _ 73) (by simp) hb3;clear hb3;obtain ⟨d0,d1,d2,d3,g0,g1,g2,g3,hy,hy'⟩:=hP3.out.cells))
          exact bodyPost_ret (v:=.tuple #[.agg #[.slice none 0 0,.bool false,.int .i64 0,.string ⟨#[]⟩],.int .i64 5]) (by simp [results,Tryz.results18,go_sem, *]) rfl (dout_err HE.out (by decide) (hP3.out.done _ _ _ _).2)
        · have hdl:decide (20<(ts.length:Int))=false:=by simp;omega
          by_cases hdp:255<(retT x).1
          · have HE:Hid (pdE s.data.toList=5):=hLE (by rw [hlg];simp [hdp])
            have hdd:decide ((255:Int)<(((retT x).1:Nat):Int))=true:=by simp;omega
            rw [hdd] at HD
            clear hE HR hr hlen hrd hws hl2 HA hrl h0 hLE hlg HK hdd hdp
            generalize (retT x).1=rd at *
            generalize (⟨(retT x).2.toArray⟩:ByteArray)=rn at *
            generalize voidB x=vb at *
            go_enter Tryz.func18,Tryz.ntmps18
            go_wp2_with (first
              | (go_at_call 37;refine ((HN.out) _).mono ?_;rintro e w1 ⟨rfl,rfl⟩)
              | (go_at_call 38;refine (HQ.out).mono ?_;rintro e w2 ⟨v,rfl,hP0⟩;obtain ⟨ao,cap,rfl⟩:=own_slice hP0.out.own;have hP:Hid (Pd w s s.size (.slice ao ts.length cap) ts (w2.alloc (.cells #[.slice ao ts.length cap,.bool vb,.int .i64 rd,.string rn] 73))):=hP0.out.keep ((Below.refl _ _).alloc (Nat.le_refl _) _);have hz2:=hP0.out.cells.2.2.2.2.2.2.2.2.2)
              | (go_at_call 39;refine (HA'.out _ _ hP).mono ?_;rintro e w3 ⟨rfl,hb3⟩;have hP3:Hid (Pd w s s.size (.slice ao ts.length cap) ts w3):=hP.out.keep hb3;have hs3:w2.heap.size<w3.heap.size:=(by have:=hb3.size;simp at this;omega);obtain ⟨t0,t1,t2,t3⟩:=four_keep (four_new w2 _ _ _ _ 73) (by simp) hb3;clear hb3;obtain ⟨d0,d1,d2,d3,g0,g1,g2,g3,hy,hy'⟩:=hP3.out.cells)
              | (go_at_call 40;refine ((HD.out) _).mono ?_;rintro e w4 ⟨rfl,hb4⟩;have hP4:Hid (Pd w s s.size (.slice ao ts.length cap) ts w4):=hP3.out.keep hb4;have hs4:w2.heap.size<w4.heap.size:=(by have:=hb4.size;omega);obtain ⟨y0,y1,y2,y3⟩:=four_keep ⟨t0,t1,t2,t3⟩ hs3 hb4;clear hb4;obtain ⟨j0,j1,j2,j3,k0,k1,k2,k3,hx,hx'⟩:=hP4.out.cells))
            exact bodyPost_ret (v:=.tuple #[.agg #[.slice none 0 0,.bool false,.int .i64 0,.string ⟨#[]⟩],.int .i64 5]) (by simp [results,Tryz.results18,go_sem, *]) rfl (dout_err HE.out (by decide) (hP4.out.done _ _ _ _).2)
          · have hdd:decide ((255:Int)<(((retT x).1:Nat):Int))=false:=by simp;omega
            rw [hdd] at HD
            cases hany:(ts.map natT).any deepI with
            | true =>
              have HE:Hid (pdE s.data.toList=5):=hLE (by rw [hlg,hany];simp)
              rw [hany] at HK
              clear hE HR hr hlen hrd hws hl2 HA hrl h0 hLE hlg hdd hdp hany
              generalize (retT x).1=rd at *
              generalize (⟨(retT x).2.toArray⟩:ByteArray)=rn at *
              generalize voidB x=vb at *
              go_enter Tryz.func18,Tryz.ntmps18
              go_wp2_with (first
                | (go_at_call 37;refine ((HN.out) _).mono ?_;rintro e w1 ⟨rfl,rfl⟩)
                | (go_at_call 38;refine (HQ.out).mono ?_;rintro e w2 ⟨v,rfl,hP0⟩;obtain ⟨ao,cap,rfl⟩:=own_slice hP0.out.own;have hP:Hid (Pd w s s.size (.slice ao ts.length cap) ts (w2.alloc (.cells #[.slice ao ts.length cap,.bool vb,.int .i64 rd,.string rn] 73))):=hP0.out.keep ((Below.refl _ _).alloc (Nat.le_refl _) _);have hz2:=hP0.out.cells.2.2.2.2.2.2.2.2.2)
                | (go_at_call 39;refine (HA'.out _ _ hP).mono ?_;rintro e w3 ⟨rfl,hb3⟩;have hP3:Hid (Pd w s s.size (.slice ao ts.length cap) ts w3):=hP.out.keep hb3;have hs3:w2.heap.size<w3.heap.size:=(by have:=hb3.size;simp at this;omega);obtain ⟨t0,t1,t2,t3⟩:=four_keep (four_new w2 _ _ _ _ 73) (by simp) hb3;clear hb3;obtain ⟨d0,d1,d2,d3,g0,g1,g2,g3,hy,hy'⟩:=hP3.out.cells)
                | (go_at_call 40;refine ((HD.out) _).mono ?_;rintro e w4 ⟨rfl,hb4⟩;have hP4:Hid (Pd w s s.size (.slice ao ts.length cap) ts w4):=hP3.out.keep hb4;have hs4:w2.heap.size<w4.heap.size:=(by have:=hb4.size;omega);obtain ⟨y0,y1,y2,y3⟩:=four_keep ⟨t0,t1,t2,t3⟩ hs3 hb4;clear hb4;obtain ⟨j0,j1,j2,j3,k0,k1,k2,k3,hx,hx'⟩:=hP4.out.cells)
                | (go_at_call 41;refine ((HK.out) _ _ hP4).mono ?_;rintro e w5 ⟨rfl,hb5⟩;have hP5:Hid (Pd w s s.size (.slice ao ts.length cap) ts w5):=hP4.out.keep hb5;obtain ⟨z0,z1,z2,z3⟩:=four_keep ⟨y0,y1,y2,y3⟩ hs4 hb5;clear hb5;obtain ⟨l0,l1,l2,l3,m0,m1,m2,m3,hv,hv'⟩:=hP5.out.cells))
              exact bodyPost_ret (v:=.tuple #[.agg #[.slice none 0 0,.bool false,.int .i64 0,.string ⟨#[]⟩],.int .i64 5]) (by simp [results,Tryz.results18,go_sem, *]) rfl (dout_err HE.out (by decide) (hP5.out.done _ _ _ _).2)
            | false =>
              have HG:Hid (largeD (ts,x)=false):=by rw [Hid,hlg,hany];simp;omega
              have HO:Hid (∀ (v:Value) (w':World),w'.ownsRow w.heap.size 71 2 v ts.length (flatT (ts.map natT))→Below w.heap.size w w'→DOut s.data.toList w (.returned (.tuple #[.agg #[v,.bool (voidB x),.int .i64 (retT x).1,.string ⟨(retT x).2.toArray⟩],.int .i64 0])) w') :=
                fun v w' ho hb=>dout_ok hrd hl2 HG.out ho hb
              rw [hany] at HK
              clear hE HR hr hlen hrd hws hl2 HA hrl h0 hLE hlg hdd hdp hany HG
              generalize (retT x).1=rd at *
              generalize (⟨(retT x).2.toArray⟩:ByteArray)=rn at *
              generalize voidB x=vb at *
              go_enter Tryz.func18,Tryz.ntmps18
              go_wp2_with (first
                | (go_at_call 37;refine ((HN.out) _).mono ?_;rintro e w1 ⟨rfl,rfl⟩)
                | (go_at_call 38;refine (HQ.out).mono ?_;rintro e w2 ⟨v,rfl,hP0⟩;obtain ⟨ao,cap,rfl⟩:=own_slice hP0.out.own;have hP:Hid (Pd w s s.size (.slice ao ts.length cap) ts (w2.alloc (.cells #[.slice ao ts.length cap,.bool vb,.int .i64 rd,.string rn] 73))):=hP0.out.keep ((Below.refl _ _).alloc (Nat.le_refl _) _);have hz2:=hP0.out.cells.2.2.2.2.2.2.2.2.2)
                | (go_at_call 39;refine (HA'.out _ _ hP).mono ?_;rintro e w3 ⟨rfl,hb3⟩;have hP3:Hid (Pd w s s.size (.slice ao ts.length cap) ts w3):=hP.out.keep hb3;have hs3:w2.heap.size<w3.heap.size:=(by have:=hb3.size;simp at this;omega);obtain ⟨t0,t1,t2,t3⟩:=four_keep (four_new w2 _ _ _ _ 73) (by simp) hb3;clear hb3;obtain ⟨d0,d1,d2,d3,g0,g1,g2,g3,hy,hy'⟩:=hP3.out.cells)
                | (go_at_call 40;refine ((HD.out) _).mono ?_;rintro e w4 ⟨rfl,hb4⟩;have hP4:Hid (Pd w s s.size (.slice ao ts.length cap) ts w4):=hP3.out.keep hb4;have hs4:w2.heap.size<w4.heap.size:=(by have:=hb4.size;omega);obtain ⟨y0,y1,y2,y3⟩:=four_keep ⟨t0,t1,t2,t3⟩ hs3 hb4;clear hb4;obtain ⟨j0,j1,j2,j3,k0,k1,k2,k3,hx,hx'⟩:=hP4.out.cells)
                | (go_at_call 41;refine ((HK.out) _ _ hP4).mono ?_;rintro e w5 ⟨rfl,hb5⟩;have hP5:Hid (Pd w s s.size (.slice ao ts.length cap) ts w5):=hP4.out.keep hb5;obtain ⟨z0,z1,z2,z3⟩:=four_keep ⟨y0,y1,y2,y3⟩ hs4 hb5;clear hb5;obtain ⟨l0,l1,l2,l3,m0,m1,m2,m3,hv,hv'⟩:=hP5.out.cells))
              exact bodyPost_ret (v:=.tuple #[.agg #[.slice ao ts.length cap,.bool vb,.int .i64 rd,.string rn],.int .i64 0]) (by simp [results,Tryz.results18,go_sem, *]) rfl (HO.out _ _ (hP5.out.done _ _ _ _).1 (hP5.out.done _ _ _ _).2)
structure Nd where
  i:Bool
  sp:Nat
  cl:List Nat
structure WO (ns:List Nd):Prop where
  top:∃ n,ns[0]?=some n∧n.sp=0∧n.cl=[]∧n.i=false
  sp:∀ (k:Nat) (n:Nd),0<k→ns[k]?=some n→n.sp<k∧(∀ p,ns[n.sp]?=some p→p.i=false∧∀ i∈p.cl,i∈n.cl)∧(n.i=true→n.sp=0)
  cl:∀ (k:Nat) (n:Nd),ns[k]?=some n→n.cl.Nodup∧∀ i∈n.cl,i<k∧∃ p,ns[i]?=some p∧p.i=true∧∀ j∈p.cl,j∈n.cl
def spO (ns:List Nd) (k:Nat):Nat:=match ns[k]? with
  | some n=>n.sp
  | none=>0
def clO (ns:List Nd) (k:Nat):List Nat:=match ns[k]? with
  | some n=>n.cl
  | none=>[]
def upF (ns:List Nd):Nat→Nat→List Nat
  | 0,k=>[k]
  | f+1,k=>k::(if k=0 then [] else upF ns f (spO ns k))
def chL (ns:List Nd) (k:Nat):List Nat:=upF ns k k
def extB (ns:List Nd) (a b:Nat):Bool:=(chL ns a).contains b||(clO ns a).contains b
theorem WO.spLt {ns:List Nd} (h:WO ns) {k:Nat} (hk:k<ns.length) (h0:0<k):spO ns k<k:=by
  have e:ns[k]?=some ns[k]:=List.getElem?_eq_getElem hk
  have:=(h.sp k _ h0 e).1
  rw [spO,e];exact this
theorem upF_eq {ns:List Nd} (h:WO ns):∀ (f g k:Nat),k≤f→k≤g→k<ns.length→upF ns f k=upF ns g k
  | 0,0,_,_,_,_=>rfl
  | 0,g+1,k,hf,_,_=>by
    obtain rfl:k=0:=by omega
    rfl
  | f+1,0,k,_,hg,_=>by
    obtain rfl:k=0:=by omega
    rfl
  | f+1,g+1,k,hf,hg,hk=>by
    rw [upF,upF]
    by_cases h0:k=0
    · rw [if_pos h0,if_pos h0]
    · rw [if_neg h0,if_neg h0]
      have:=h.spLt hk (by omega)
      rw [upF_eq h f g (spO ns k) (by omega) (by omega) (by omega)]
theorem chL_zero (ns:List Nd):chL ns 0=[0]:=rfl
theorem chL_cons {ns:List Nd} (h:WO ns) {k:Nat} (hk:k<ns.length) (h0:0<k):chL ns k=k::chL ns (spO ns k):=by
  have hs:=h.spLt hk h0
  obtain ⟨j,rfl⟩:∃ j,k=j+1:=⟨k - 1,by omega⟩
  rw [chL,upF,if_neg (by omega),chL,upF_eq h j (spO ns (j+1)) (spO ns (j+1)) (by omega) (Nat.le_refl _) (by omega)]
theorem chL_self (ns:List Nd) (k:Nat):k∈chL ns k:=by
  cases k with
  | zero=>simp [chL_zero]
  | succ k=>simp [chL,upF]
theorem ch_ind {ns:List Nd} (h:WO ns) {P:Nat→Prop} (h0:P 0) (hs:∀ k,k<ns.length→0<k→spO ns k<k→P (spO ns k)→P k):∀ k,k<ns.length→P k:=by
  intro k
  induction k using Nat.strongRecOn with
  | _ k ih =>
    intro hk
    by_cases hz:k=0
    · rw [hz];exact h0
    · have:=h.spLt hk (by omega)
      exact hs k hk (by omega) this (ih _ this (by omega))
theorem ch_pos {ns:List Nd} (a:Nat):0<(chL ns a).length:=by
  have:=chL_self ns a
  exact List.length_pos_of_mem this
theorem cl_facts {ns:List Nd} (h:WO ns) {a i:Nat} (hi:i∈clO ns a):i<a∧a<ns.length∧∃ p,ns[i]?=some p∧p.i=true∧∀ j∈p.cl,j∈clO ns a:=by
  cases e:ns[a]? with
  | none=>rw [clO,e] at hi;simp at hi
  | some n =>
    rw [clO,e] at hi ⊢
    obtain ⟨h1,h2⟩:=(h.cl a n e).2 i hi
    exact ⟨h1,(List.getElem?_eq_some_iff.1 e).1,h2⟩
theorem takeL_iff (cl a:List Nat) (i:Nat):i∈takeL cl a↔i∈cl∨i∈a:=by
  induction a generalizing cl with
  | nil=>simp [takeL]
  | cons x a ih =>
    rw [takeL,ih]
    split
    · rename_i hx
      have hx:=List.contains_iff_mem.1 hx
      simp only [List.mem_cons]
      constructor
      · rintro (h|h)
        · exact .inl h
        · exact .inr (.inr h)
      · rintro (h|rfl|h)
        · exact .inl h
        · exact .inl hx
        · exact .inr h
    · simp only [List.mem_append,List.mem_cons,List.not_mem_nil,or_false,or_assoc]
theorem gathF_iff (cls:List (List Nat)) (ifs:List Nat) (c:List Nat) (i:Nat):i∈ifs.foldl (gathF cls) c↔i∈c∨∃ x∈ifs,i=x∨i∈cls.getD x []:=by
  induction ifs generalizing c with
  | nil=>simp
  | cons x l ih =>
    rw [List.foldl_cons,ih,gathF,takeL_iff,takeL_iff]
    simp only [List.mem_cons,List.not_mem_nil,or_false,exists_eq_or_imp]
    constructor
    · rintro (((h|h)|h)|h)
      · exact .inl h
      · exact .inr (.inl (.inr h))
      · exact .inr (.inl (.inl h))
      · exact .inr (.inr h)
    · rintro (h|(h|h)|h)
      · exact .inl (.inl (.inl h))
      · exact .inl (.inr h)
      · exact .inl (.inl (.inr h))
      · exact .inr h
theorem gathL_iff (cls:List (List Nat)) (sup:Nat) (ifs:List Nat) (i:Nat):i∈gathL cls sup ifs↔i∈cls.getD sup []∨∃ x∈ifs,i=x∨i∈cls.getD x []:=by
  rw [gathL,gathF_iff,takeL_iff];simp
theorem gathL_nodup (cls:List (List Nat)) (sup:Nat) (ifs:List Nat):(gathL cls sup ifs).Nodup:=by
  have key:∀ (l:List Nat) (c:List Nat),c.Nodup→(l.foldl (gathF cls) c).Nodup:=by
    intro l
    induction l with
    | nil=>exact fun c h=>h
    | cons x l ih=>exact fun c h=>ih _ (takeL_nodup _ _ (takeL_nodup _ _ h))
  exact key _ _ (takeL_nodup _ _ (by simp))
theorem getD_cl (ns:List Nd) (k:Nat):(ns.map Nd.cl).getD k []=clO ns k:=by
  rw [List.getD_eq_getElem?_getD,List.getElem?_map,clO]
  cases ns[k]? <;> rfl
theorem WO.snoc {ns:List Nd} (h:WO ns) (ib:Bool) (s:Nat) (ifs:List Nat) (hs:∃ p,ns[s]?=some p∧p.i=false) (hi:ib=true→s=0) (hif:∀ x∈ifs,∃ p,ns[x]?=some p∧p.i=true) :
    WO (ns++[⟨ib,s,gathL (ns.map Nd.cl) s ifs⟩]):=by
  obtain ⟨ps,hps,hpi⟩:=hs
  have hsl:=(List.getElem?_eq_some_iff.1 hps).1
  have old:∀ (k:Nat) (n:Nd),(ns++[(⟨ib,s,gathL (ns.map Nd.cl) s ifs⟩:Nd)])[k]?=some n→(k<ns.length∧ns[k]?=some n)∨(k=ns.length∧n=⟨ib,s,gathL (ns.map Nd.cl) s ifs⟩):=by
    intro k n hk
    by_cases hl:k<ns.length
    · rw [List.getElem?_append_left hl] at hk;exact .inl ⟨hl,hk⟩
    · rw [List.getElem?_append_right (by omega)] at hk
      by_cases he:k=ns.length
      · subst he;simp at hk;exact .inr ⟨rfl,hk.symm⟩
      · rw [List.getElem?_eq_none (by simp;omega)] at hk;cases hk
  have up:∀ (k:Nat) (p:Nd),ns[k]?=some p→(ns++[(⟨ib,s,gathL (ns.map Nd.cl) s ifs⟩:Nd)])[k]?=some p:=fun k p hk=>by
    rw [List.getElem?_append_left (List.getElem?_eq_some_iff.1 hk).1];exact hk
  have mem:∀ i,i∈gathL (ns.map Nd.cl) s ifs↔i∈clO ns s∨∃ x∈ifs,i=x∨i∈clO ns x:=fun i=>by rw [gathL_iff,getD_cl];simp only [getD_cl]
  refine ⟨?_,?_,?_⟩
  · obtain ⟨n,h1,h2⟩:=h.top
    exact ⟨n,up _ _ h1,h2⟩
  · intro k n h0 hk
    rcases old k n hk with ⟨hl,hk⟩|⟨rfl,rfl⟩
    · obtain ⟨h1,h2,h3⟩:=h.sp k n h0 hk
      refine ⟨h1,fun p hp=>?_,h3⟩
      rw [List.getElem?_append_left (by omega)] at hp
      exact h2 p hp
    · refine ⟨hsl,fun p hp=>?_,hi⟩
      rw [List.getElem?_append_left hsl,hps] at hp
      cases hp
      refine ⟨hpi,fun i hc=>(mem i).2 (.inl ?_)⟩
      rw [clO,hps];exact hc
  · intro k n hk
    rcases old k n hk with ⟨hl,hk⟩|⟨rfl,rfl⟩
    · obtain ⟨h1,h2⟩:=h.cl k n hk
      refine ⟨h1,fun i hc=>?_⟩
      obtain ⟨h3,p,hp,h4⟩:=h2 i hc
      exact ⟨h3,p,up _ _ hp,h4⟩
    · refine ⟨gathL_nodup _ _ _,fun i hc=>?_⟩
      rcases (mem i).1 hc with hc|⟨x,hx,rfl|hc⟩
      · obtain ⟨h1,h2,p,hp,h3,h4⟩:=cl_facts h hc
        exact ⟨by omega,p,up _ _ hp,h3,fun j hj=>(mem j).2 (.inl (h4 j hj))⟩
      · obtain ⟨p,hp,h3⟩:=hif i hx
        refine ⟨(List.getElem?_eq_some_iff.1 hp).1,p,up _ _ hp,h3,fun j hj=>(mem j).2 (.inr ⟨i,hx,.inr ?_⟩)⟩
        rw [clO,hp];exact hj
      · obtain ⟨h1,h2,p,hp,h3,h4⟩:=cl_facts h hc
        exact ⟨by omega,p,up _ _ hp,h3,fun j hj=>(mem j).2 (.inr ⟨x,hx,.inr (h4 j hj)⟩)⟩
def nd (q:Plc):Nd:=⟨ifB q.c.fl,q.sp,q.cl⟩
theorem nhas_at {l:List Nat} {p:Nat} (k:Nat) (x:Nat) (h:l[k]?=some x):(l.drop k).contains p=((p == x)||(l.drop (k+1)).contains p):=by
  obtain ⟨h1,h2⟩:=List.getElem?_eq_some_iff.1 h
  rw [List.drop_eq_getElem_cons h1,h2,List.contains_cons]
set_option maxHeartbeats 1000000 in
theorem nIndex_any (v:Value) (l:List Nat) (p:Nat) (W:World) (h:Rds W v l.length 1 (l.map numV)) (hl:l.length≤1000000) :
    Calls Tryz.prog 271 #[v,.int .i64 (p:Int)] W fun e w'=>(∃ i:Int,e=.returned (.int .i64 i)∧decide (0≤i)=l.contains p)∧Below W.heap.size W w':=by
  obtain ⟨av,cv,rfl⟩:=h.slice
  have HV:Hid (Rds W (.slice av l.length cv) l.length 1 (l.map numV)):=h
  obtain ⟨N,hN⟩:∃ N,l.length=N:=⟨_,rfl⟩
  rw [hN] at hl ⊢
  have HN1:Hid (l.length=N):=hN
  clear hN h
  go_enter Tryz.func271,Tryz.ntmps271
  go_wp2
  go_loopw [8] (fun iv wr=>∃ i:Nat,iv=.int .i64 i∧i≤N∧Hid (Below W.heap.size W wr)∧Hid ((l.drop i).contains p=l.contains p)) (fun iv _=>N - (intOf iv).toNat)
  case atStart=>exact ⟨0,rfl,Nat.zero_le _,Below.refl _ _,rfl⟩
  case round =>
    obtain ⟨i,rfl,hi,hb,hs⟩:=hrel
    by_cases hlt:i<N
    · obtain ⟨x,hx⟩:∃ x,l[i]?=some x:=⟨_,List.getElem?_eq_getElem (by rw [HN1.out];exact hlt)⟩
      obtain ⟨bk,o,rfl,hbk,hcell⟩:∃ bk o,av=some ⟨bk,o,none⟩∧bk<W.heap.size∧W.cell? ⟨bk,o+i,none⟩=some (.int .i64 (x:Int)):=by
        rcases HV.out.val with ⟨_,e2⟩|⟨bk,o,c,e,_,_,h3,h4⟩
        · rw [HN1.out] at e2;omega
        · simp only [Value.slice.injEq] at e
          exact ⟨bk,o,e.1,h3,h4 i _ (by rw [List.getElem?_map,hx];rfl)⟩
      have hst:=nhas_at (p:=p) i x hx
      rw [hs.out] at hst
      have p0:=(hb.out.cell hbk).trans hcell
      clear hs hx hcell
      by_cases hq:p=x
      · subst hq
        have HZ:Hid (l.contains p=true):=by rw [Hid,hst];simp
        clear hst
        go_wp2
        all_goals (try go_quiet (fail))
        all_goals (try go_wp2)
        go_ret
        exact ⟨⟨i,rfl,by rw [HZ.out];simp⟩,by first|exact hb.out|exact below_drewN hb.out _⟩
      · have HZ:Hid ((l.drop (i+1)).contains p=l.contains p):=by rw [Hid,hst];simp [hq]
        have hq2:¬ (p:Int)=(x:Int):=by omega
        clear hst
        go_wp2
        all_goals (try go_quiet (fail))
        all_goals (try go_wp2)
        go_roundw
        case rel=>exact ⟨i+1,by go_num,by omega,by first|exact hb|exact below_drewN hb.out _,HZ⟩
        case measure=>simp [intOf];omega
    · have e:i=N:=by omega
      subst e
      have HZ:Hid (l.contains p=false):=by rw [Hid,← hs.out,List.drop_of_length_le (by rw [HN1.out];exact Nat.le_refl _)];rfl
      clear hs
      go_wp2
      go_ret
      exact ⟨⟨-1,rfl,by rw [HZ.out];rfl⟩,hb.out⟩
theorem nContains_any (v:Value) (l:List Nat) (p:Nat) (W:World) (h:Rds W v l.length 1 (l.map numV)) (hl:l.length≤1000000) :
    Calls Tryz.prog 211 #[v,.int .i64 (p:Int)] W fun e w'=>e=.returned (.bool (l.contains p))∧Below W.heap.size W w':=by
  have HI:Hid (Calls Tryz.prog 271 #[v,.int .i64 (p:Int)] W fun e w'=>(∃ i:Int,e=.returned (.int .i64 i)∧Hid (decide (0≤i)=l.contains p))∧Below W.heap.size W w'):=nIndex_any v l p W h hl
  clear h hl
  generalize l.contains p=z at *
  go_enter Tryz.func211,Tryz.ntmps211
  go_wp2_with (go_at_call 271;refine HI.out.mono ?_;rintro e w1 ⟨⟨i,rfl,hi⟩,hb⟩;have B1:Hid _:=hb;clear hb HI)
  go_ret
  exact ⟨by rw [← hi.out];rfl,B1.out⟩
set_option maxHeartbeats 1000000 in
theorem parseRef_any (s:ByteArray) (hs:s.size≤maxLen) (w:World) :
    Calls Tryz.prog 35 #[.string s] w fun e w'=>e=.returned (.tuple #[.agg #[.int .i64 (prfT s.data.toList).1,.string ⟨(prfT s.data.toList).2.toArray⟩],.int .i64 (prfE s.data.toList)])∧Below w.heap.size w w':=by
  have hlen:s.data.toList.length=s.size:=by simp
  have HP:Hid (∀ w,_):=parse_any s hs
  have HV:Hid (∀ w,_):=valid_any s hs
  have HH:Hid (∀ w,_):=hasPrefix_any s 91
  have hE:prfE s.data.toList=if s.data.toList.head?=some 91 then parE s.data.toList else if 2000<s.data.toList.length then 5 else if validL s.data.toList then 0 else 4:=by
    unfold prfE
    by_cases h1:s.data.toList.head?=some 91
    · by_cases h2:2000<s.data.toList.length
      · rw [if_pos h2,if_pos h1,parE,if_pos h2]
      · rw [if_neg h2,if_pos h1,if_pos h1]
    · rw [if_neg h1,if_neg h1]
  have hT:prfT s.data.toList=if s.data.toList.head?=some 91 then parT s.data.toList else if 2000<s.data.toList.length then (0,[]) else if validL s.data.toList then (0,s.data.toList) else (0,[]):=by
    unfold prfT
    by_cases h1:s.data.toList.head?=some 91
    · by_cases h2:2000<s.data.toList.length
      · rw [if_pos h2,if_pos h1,parT,parE,if_pos h2];rfl
      · rw [if_neg h2,if_pos h1,if_pos h1]
    · rw [if_neg h1,if_neg h1]
  unfold maxLen at hs
  by_cases hh:s.data.toList.head?=some 91
  · have h0:hd s 91=true:=by simp [hd,hh]
    rw [h0] at HH
    have HE:Hid (prfE s.data.toList=parE s.data.toList):=by rw [Hid,hE,if_pos hh]
    have HT:Hid (prfT s.data.toList=parT s.data.toList):=by rw [Hid,hT,if_pos hh]
    clear hlen HV hh hE hT h0
    generalize prfE s.data.toList=x at *
    generalize prfT s.data.toList=t at *
    generalize parE s.data.toList=pe at *
    generalize parT s.data.toList=pt at *
    go_enter Tryz.func35,Tryz.ntmps35
    go_wp2_with (first
      | (go_at_call 64;refine ((HH.out) _).mono ?_;rintro e w0 ⟨rfl,rfl⟩)
      | (go_at_call 65;refine ((HP.out) _).mono ?_;rintro e w1 ⟨rfl,hb1⟩;have hr0:=hb1.cell (p:=⟨w.heap.size,0,none⟩) (by simp);have hr1:=hb1.cell (p:=⟨w.heap.size,1,none⟩) (by simp);have hf0:=hb1.frozen (p:=⟨w.heap.size,0,none⟩) (by simp);have hf1:=hb1.frozen (p:=⟨w.heap.size,1,none⟩) (by simp)))
    refine bodyPost_ret (v:=.tuple #[.agg #[.int .i64 pt.1,.string ⟨pt.2.toArray⟩],.int .i64 pe]) (by simp [results,Tryz.results35,go_sem, *]) rfl ⟨?_,?_⟩
    · rw [HT.out,HE.out]
    · have hb9:Below w.heap.size w w1:=Below.step ((Below.refl _ _).alloc (Nat.le_refl _) _) hb1
      exact (hb9.setCell (Nat.le_refl _) _).setCell (Nat.le_refl _) _
  · have h0:hd s 91=false:=by simp [hd,hh]
    rw [h0] at HH
    by_cases hbig:2000<s.size
    · have HE:Hid (prfE s.data.toList=5):=by rw [Hid,hE,if_neg hh,if_pos (by rw [hlen];exact hbig)]
      have HT:Hid (prfT s.data.toList=(0,[])):=by rw [Hid,hT,if_neg hh,if_pos (by rw [hlen];exact hbig)]
      clear hlen HV hh hE hT h0 HP
      generalize prfE s.data.toList=x at *
      generalize prfT s.data.toList=t at *
      go_enter Tryz.func35,Tryz.ntmps35
      go_wp2_with (go_at_call 64;refine ((HH.out) _).mono ?_;rintro e w0 ⟨rfl,rfl⟩)
      refine bodyPost_ret (v:=.tuple #[.agg #[.int .i64 0,.string ⟨#[]⟩],.int .i64 5]) (by simp [results,Tryz.results35,go_sem, *]) rfl ⟨?_,?_⟩
      · rw [HT.out,HE.out];rfl
      · exact (Below.refl _ _).alloc (Nat.le_refl _) _
    · have hng:¬ 2000<s.data.toList.length:=by rw [hlen];exact hbig
      cases hv:validL s.data.toList with
      | true =>
        have HE:Hid (prfE s.data.toList=0):=by rw [Hid,hE,if_neg hh,if_neg hng,hv];rfl
        have HT:Hid (prfT s.data.toList=(0,s.data.toList)):=by rw [Hid,hT,if_neg hh,if_neg hng,hv];rfl
        rw [hv] at HV
        clear hlen HP hh hng hv hE hT h0
        generalize prfE s.data.toList=x at *
        generalize prfT s.data.toList=t at *
        go_enter Tryz.func35,Tryz.ntmps35
        go_wp2_with (first
          | (go_at_call 64;refine ((HH.out) _).mono ?_;rintro e w0 ⟨rfl,rfl⟩)
          | (go_at_call 66;refine ((HV.out) _).mono ?_;rintro e w1 ⟨rfl,hb1⟩;have hr0:=hb1.cell (p:=⟨w.heap.size,0,none⟩) (by simp);have hr1:=hb1.cell (p:=⟨w.heap.size,1,none⟩) (by simp);have hf0:=hb1.frozen (p:=⟨w.heap.size,0,none⟩) (by simp);have hf1:=hb1.frozen (p:=⟨w.heap.size,1,none⟩) (by simp)))
        refine bodyPost_ret (v:=.tuple #[.agg #[.int .i64 0,.string s],.int .i64 0]) (by simp [results,Tryz.results35,go_sem, *]) rfl ⟨?_,?_⟩
        · rw [HT.out,HE.out];rfl
        · have hb9:Below w.heap.size w w1:=Below.step ((Below.refl _ _).alloc (Nat.le_refl _) _) hb1
          exact (hb9.setCell (Nat.le_refl _) _).setCell (Nat.le_refl _) _
      | false =>
        have HE:Hid (prfE s.data.toList=4):=by rw [Hid,hE,if_neg hh,if_neg hng,hv];rfl
        have HT:Hid (prfT s.data.toList=(0,[])):=by rw [Hid,hT,if_neg hh,if_neg hng,hv];rfl
        rw [hv] at HV
        clear hlen HP hh hng hv hE hT h0
        generalize prfE s.data.toList=x at *
        generalize prfT s.data.toList=t at *
        go_enter Tryz.func35,Tryz.ntmps35
        go_wp2_with (first
          | (go_at_call 64;refine ((HH.out) _).mono ?_;rintro e w0 ⟨rfl,rfl⟩)
          | (go_at_call 66;refine ((HV.out) _).mono ?_;rintro e w1 ⟨rfl,hb1⟩;have hr0:=hb1.cell (p:=⟨w.heap.size,0,none⟩) (by simp);have hr1:=hb1.cell (p:=⟨w.heap.size,1,none⟩) (by simp);have hf0:=hb1.frozen (p:=⟨w.heap.size,0,none⟩) (by simp);have hf1:=hb1.frozen (p:=⟨w.heap.size,1,none⟩) (by simp)))
        refine bodyPost_ret (v:=.tuple #[.agg #[.int .i64 0,.string ⟨#[]⟩],.int .i64 4]) (by simp [results,Tryz.results35,go_sem, *]) rfl ⟨?_,?_⟩
        · rw [HT.out,HE.out];rfl
        · have hb9:Below w.heap.size w w1:=Below.step ((Below.refl _ _).alloc (Nat.le_refl _) _) hb1
          exact (hb9.setCell (Nat.le_refl _) _).setCell (Nat.le_refl _) _
set_option maxHeartbeats 400000 in
theorem tyCheck_any (d:Int) (s:ByteArray) (hs:s.size≤maxLen) (w:World) :
    Calls Tryz.prog 206 #[.agg #[.int .i64 d,.string s]] w fun e w'=>e=.returned (.int .i64 (chkI (sndB d s.data.toList)))∧Below w.heap.size w w':=by
  have HV:Hid (∀ w,_):=valid_any s hs
  have HD:Hid (∀ w,_):=isDeep_any d s
  have HB:Hid (sndB d s.data.toList=(decide (0≤d)&&decide (d≤255)&&(s.toList.isEmpty||validL s.data.toList))):=by rw [Hid,Lib.toList_data];rfl
  generalize validL s.data.toList=b at *
  generalize sndB d s.data.toList=r at *
  by_cases h1:0≤d
  · have h1':¬ d<0:=by omega
    by_cases h2:d≤255
    · have h3:decide (255<d)=false:=by simp;omega
      rw [h3] at HD
      clear h3
      cases he:s.toList.isEmpty with
      | true =>
        have HR:Hid (r=true):=by rw [Hid,HB.out,he];simp [h1,h2]
        go_enter Tryz.func206,Tryz.ntmps206
        go_wp2_with (go_at_call 40;refine ((HD.out) _).mono ?_;rintro e w0 ⟨rfl,hb0⟩;have hc0:=hb0.cell (p:=⟨w.heap.size,0,none⟩) (by simp);have hc1:=hb0.cell (p:=⟨w.heap.size,1,none⟩) (by simp))
        go_ret
        exact ⟨ret_int (by rw [HR.out];rfl),Below.step ((Below.refl _ _).alloc (Nat.le_refl _) _) (by assumption)⟩
      | false =>
        have HR:Hid (r=b):=by rw [Hid,HB.out,he];simp [h1,h2]
        cases b
        all_goals
          go_enter Tryz.func206,Tryz.ntmps206
          go_wp2_with (first
            | (go_at_call 40;refine ((HD.out) _).mono ?_;rintro e w0 ⟨rfl,hb0⟩;have hc0:=hb0.cell (p:=⟨w.heap.size,0,none⟩) (by simp);have hc1:=hb0.cell (p:=⟨w.heap.size,1,none⟩) (by simp))
            | (go_at_call 66;refine ((HV.out) _).mono ?_;rintro e w1 ⟨rfl,hb1⟩))
          go_ret
          exact ⟨ret_int (by rw [HR.out];rfl),Below.step (Below.step ((Below.refl _ _).alloc (Nat.le_refl _) _) hb0) hb1⟩
    · have HR:Hid (r=false):=by rw [Hid,HB.out];simp [h2]
      have h3:decide (255<d)=true:=by simp;omega
      rw [h3] at HD
      clear h3
      go_enter Tryz.func206,Tryz.ntmps206
      go_wp2_with (go_at_call 40;refine ((HD.out) _).mono ?_;rintro e w0 ⟨rfl,hb0⟩;have hc0:=hb0.cell (p:=⟨w.heap.size,0,none⟩) (by simp);have hc1:=hb0.cell (p:=⟨w.heap.size,1,none⟩) (by simp))
      go_ret
      exact ⟨ret_int (by rw [HR.out];rfl),Below.step ((Below.refl _ _).alloc (Nat.le_refl _) _) (by assumption)⟩
  · have HR:Hid (r=false):=by rw [Hid,HB.out];simp [h1]
    have h1':d<0:=by omega
    go_enter Tryz.func206,Tryz.ntmps206
    go_wp2
    go_ret
    exact ⟨ret_int (by rw [HR.out];rfl),(Below.refl _ _).alloc (Nat.le_refl _) _⟩
end Go.Proofs.YtlohdfpinmdljaaGreatDoor
