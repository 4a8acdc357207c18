import Derived.Test.YtlnojhhddinjkaaGreatOwnParse
set_option maxHeartbeats 4000000
set_option maxRecDepth 100000
namespace Go.Proofs.YtlnojhhddinjkaaGreat
open Go.RowKit
def Xv (t:Int×ByteArray):Bool:=decide (255<t.1)
theorem Zdb (v:Value) (ts:List (Int×ByteArray)) (W:World) (h:IsTys W v ts) :
 Calls Tryz.prog 189 #[v,.func (.func 140) #[] #[]] W fun e w'=>(∃ i:Int,e=.returned (.int .i64 i)∧decide (0≤i)=ts.any Xv)∧Bw W w':=by
 obtain ⟨ao,cap,rfl,h1,h2,h3⟩:=h
 unfold maxLen at h2
 have H3:Hid _:=h3
 clear h3
 have HD:Hid (∀ (d:Int) (n:ByteArray) (w:World),_):=Qo
 go_enter Tryz.func189,Tryz.ntmps189
 go_wp2
 go_loopw [8] (fun iv wr=>∃ i:Nat,iv=.int .i64 i∧i≤ts.length∧Hid (Bw W wr)∧Hid ((ts.drop i).any Xv=ts.any Xv)) (fun iv _=>ts.length - (intOf iv).toNat)
 case atStart=>exact ⟨0,rfl,Nat.zero_le _,Below.refl _ _,rfl⟩
 case round =>
  obtain ⟨i,rfl,hi,hb,ha⟩:=hrel
  by_cases hlt:i<ts.length
  ·obtain ⟨bk,o,hao,hbk,hc⟩:=H3.out (by intro e;rw [e] at hlt;simp at hlt)
   obtain ⟨⟨d,n⟩,ht⟩:∃ t,ts[i]?=some t:=⟨_,List.getElem?_eq_getElem hlt⟩
   subst hao
   obtain ⟨c0,c1⟩:=hc i _ ht
   have k0:wr.cell? ⟨bk,o+i * 2,none⟩=some (.int .i64 d):=(hb.out.cell (p:=⟨bk,o+i * 2,none⟩) hbk).trans c0
   have k1:wr.cell? ⟨bk,o+i * 2+1,none⟩=some (.string n):=(hb.out.cell (p:=⟨bk,o+i * 2+1,none⟩) hbk).trans c1
   have hdr:ts.drop i=(d,n)::ts.drop (i+1):=by
    rw [List.drop_eq_getElem_cons hlt]
    rw [List.getElem?_eq_getElem hlt] at ht
    rw [Option.some.inj ht]
   have HI:Hid (∀ w,_):=HD.out d n
   by_cases hd:255<d
   ·have HA:Hid (ts.any Xv=true):=by rw [Hid,← ha.out,hdr];simp [Xv,hd]
    have hdd:decide (255<d)=true:=by simpa using hd
    rw [hdd] at HI
    clear hc c0 c1 H3 HD hdr ht ha hd hdd
    go_wp2_with (go_at_call 140;refine (HI.out _).mono ?_;rintro e w1 ⟨rfl,hb1⟩)
    go_ret
    exact ⟨⟨i,rfl,by rw [HA.out];simp⟩,Below.step hb.out hb1⟩
   ·have HA:Hid ((ts.drop (i+1)).any Xv=ts.any Xv):=by rw [Hid,← ha.out,hdr];simp [Xv,hd]
    have hdd:decide (255<d)=false:=by simpa using hd
    rw [hdd] at HI
    clear hc c0 c1 H3 HD hdr ht ha hd hdd
    go_wp2_with (go_at_call 140;refine (HI.out _).mono ?_;rintro e w1 ⟨rfl,hb1⟩;have hb2:Hid (Bw W w1):=Below.step hb.out hb1;clear hb1)
    go_roundw
    case rel=>exact ⟨i+1,by go_num,by omega,hb2,HA⟩
    case measure=>simp [intOf];omega
  ·have HA:Hid (ts.any Xv=false):=by rw [Hid,← ha.out,List.drop_of_length_le (by omega)];rfl
   clear H3 HD ha
   go_wp2
   go_ret
   exact ⟨⟨-1,rfl,by rw [HA.out];rfl⟩,hb.out⟩
theorem Zfd (v:Value) (ts:List (Int×ByteArray)) (W:World) (h:IsTys W v ts) :
 Calls Tryz.prog 173 #[v,.func (.func 140) #[] #[]] W fun e w'=>e=.returned (.bool (ts.any Xv))∧Bw W w':=by
 have HI:Hid (Calls Tryz.prog 189 #[v,.func (.func 140) #[] #[]] W fun e w'=>(∃ i:Int,e=.returned (.int .i64 i)∧Hid (decide (0≤i)=ts.any Xv))∧Bw W w'):=Zdb v ts W h
 obtain ⟨ao,cap,rfl,_⟩:=h
 go_enter Tryz.func173,Tryz.ntmps173
 go_wp2_with (go_at_call 189;refine (HI.out).mono ?_;rintro e w1 ⟨⟨i,rfl,hi⟩,hb1⟩)
 go_ret
 exact ⟨Zb hi.out,hb1⟩
theorem Yi (l:List UInt8):Zap l=match descOf l with
 | some (d,[])=>some d
 | _=>none:=by
 unfold Zap descOf
 split
 ·rename_i r
  have ha:Z7 (40::r)=Zz (r.length+1) r:=rfl
  rw [ha]
  cases e:Zz (r.length+1) r with
  | none=>rfl
  | some p =>
    obtain ⟨ts,q⟩:=p
    simp only
    by_cases h86:q.head?=some 86
    ·rw [if_pos h86]
     cases q with
     | nil=>simp at h86
     | cons c q =>
       simp at h86
       subst h86
       cases q with
       | nil=>rfl
       | cons c2 q2 =>
         have hr:Zy (86::c2::q2)=none:=by simp [Zy,Zq]
         simp [Zfn,hr]
    ·rw [if_neg h86]
     have hne:q≠[86]:=fun z=>by rw [z] at h86;exact h86 rfl
     unfold Zfn
     rw [if_neg hne]
     cases hr:Zy q with
     | none=>rfl
     | some p =>
       obtain ⟨t,r2⟩:=p
       cases r2 <;> rfl
 ·rename_i hx
  have ha:Z7 l=none:=by
   unfold Z7
   split
   ·rename_i r;exact absurd rfl (hx r)
   ·rfl
  rw [ha]
def Y7 (d:List (Nat×List UInt8)×Option (Nat×List UInt8)):Bool:=decide (20<d.1.length)||decide (255<(retT d.2).1)||(d.1.map natT).any Xv
def pdE (l:List UInt8):Int:=if 2000<l.length then 5 else match Zap l with
 | none=>4
 | some d=>if Y7 d then 5 else 0
def pdD (l:List UInt8):List (Nat×List UInt8)×Option (Nat×List UInt8):=if pdE l=0 then (Zap l).getD ([],some (0,[])) else ([],some (0,[]))
def DOut (l:List UInt8) (w:World) (e:Ending) (w':World):Prop :=
 ∃ v,e=.returned (.tuple #[.agg #[v,.bool (Qv (pdD l).2),.int .i64 (retT (pdD l).2).1,.string ⟨(retT (pdD l).2).2.toArray⟩],.int .i64 (pdE l)]) ∧
   w'.ownsRow w.heap.size 40 2 v (pdD l).1.length (Yf ((pdD l).1.map natT))∧Bw w w'
theorem Zs {l:List UInt8} {w w':World} {x:Int} (h:pdE l=x) (hx:x≠0) (hb:Bw w w'):DOut l w (.returned (.tuple #[.agg #[.slice none 0 0,.bool false,.int .i64 0,.string ⟨#[]⟩],.int .i64 x])) w':=by
 have e:pdD l=([],some (0,[])):=by rw [pdD,if_neg (by rw [h];exact hx)]
 unfold DOut
 rw [e,h]
 exact ⟨_,rfl,World.ownsRow_nil _ _ _ _,hb⟩
theorem Zgf {l:List UInt8} {w w':World} {ts:List (Nat×List UInt8)} {x:Option (Nat×List UInt8)} {v:Value} (h:Zap l=some (ts,x)) (hl:l.length≤2000) (hg:Y7 (ts,x)=false)
 (ho:w'.ownsRow w.heap.size 40 2 v ts.length (Yf (ts.map natT))) (hb:Bw w w'):DOut l w (.returned (.tuple #[.agg #[v,.bool (Qv x),.int .i64 (retT x).1,.string ⟨(retT x).2.toArray⟩],.int .i64 0])) w':=by
 have h0:pdE l=0:=by rw [pdE,if_neg (by omega),h];simp [hg]
 have e:pdD l=(ts,x):=by rw [pdD,if_pos h0,h];rfl
 unfold DOut
 rw [e,h0]
 exact ⟨v,rfl,ho,hb⟩
structure Pd (w:World) (s:ByteArray) (q:Nat) (v:Value) (ts:List (Nat×List UInt8)) (w2:World):Prop where
 r:w2.heap[w.heap.size]?=some (.cells Jd 198 (0,0))
 cur:Cur w2 (w.heap.size+1) s q
 own:w2.ownsRow (w.heap.size+1) 40 2 v ts.length (Yf (ts.map natT))
 bel:Bw w w2
theorem Pd.keep {w w2 w3:World} {s:ByteArray} {q:Nat} {v:Value} {ts:List (Nat×List UInt8)} (h:Pd w s q v ts w2) (hb:Bw w2 w3):Pd w s q v ts w3 :=
 ⟨by rw [hb.block _ (Array.getElem?_eq_some_iff.1 h.r).1];exact h.r,h.cur.keep hb,own_below h.own hb (Nat.le_refl _),Below.step h.bel hb⟩
theorem Pd.cells {w wr:World} {s:ByteArray} {q:Nat} {v:Value} {ts:List (Nat×List UInt8)} (h:Pd w s q v ts wr) :
 wr.cell? ⟨w.heap.size,0,none⟩=some (.slice none 0 0)∧wr.cell? ⟨w.heap.size,1,none⟩=some (.bool false)∧wr.cell? ⟨w.heap.size,2,none⟩=some (.int .i64 0)∧wr.cell? ⟨w.heap.size,3,none⟩=some (.string ⟨#[]⟩) ∧
 wr.frozen? ⟨w.heap.size,0,none⟩=false∧wr.frozen? ⟨w.heap.size,1,none⟩=false∧wr.frozen? ⟨w.heap.size,2,none⟩=false∧wr.frozen? ⟨w.heap.size,3,none⟩=false∧w.heap.size+1<wr.heap.size∧w.heap.size<wr.heap.size:=by
 refine ⟨?_,?_,?_,?_,?_,?_,?_,?_,h.cur.cells.2.2.2,Nat.lt_of_succ_lt h.cur.cells.2.2.2⟩
 ·rw [cell_of_row _ w.heap.size 0 _ 198 (0,0) h.r];rfl
 ·rw [cell_of_row _ w.heap.size 1 _ 198 (0,0) h.r];rfl
 ·rw [cell_of_row _ w.heap.size 2 _ 198 (0,0) h.r];rfl
 ·rw [cell_of_row _ w.heap.size 3 _ 198 (0,0) h.r];rfl
 all_goals simp [World.frozen?,h.r]
theorem Pd.done {w wr:World} {s:ByteArray} {q:Nat} {v:Value} {ts:List (Nat×List UInt8)} (h:Pd w s q v ts wr) (u0 u1 u2 u3:Value) :
 (set4 wr w.heap.size u0 u1 u2 u3).ownsRow w.heap.size 40 2 v ts.length (Yf (ts.map natT))∧Bw w (set4 wr w.heap.size u0 u1 u2 u3):=by
 have hg:=Qe wr w.heap.size u0 u1 u2 u3
 exact ⟨Zau (h.own.kept hg (.inr (fun e=>by have:=(h.own.lt _ e).1;omega))) (Nat.le_succ _),h.bel.grown hg h.bel.size (fun k e=>by simp at e;omega)⟩
theorem Pd.first (w:World) (s:ByteArray):Pd w s 0 (.slice none 0 0) [] ((w.alloc (.cells Jd 198)).alloc (.cells #[.string s,.int .i64 0] 233)):=by
 refine ⟨?_,?_,World.ownsRow_nil _ _ _ _,((Below.refl _ _).alloc (Nat.le_refl _) _).alloc (by simp) _⟩
 ·rw [Below.heap_alloc _ _ _ (by simp)];exact heap_alloc_new w _
 ·have:=heap_alloc_new (w.alloc (.cells Jd 198)) (.cells #[.string s,.int .i64 0] 233)
  unfold Cur
  simpa using this
theorem Pd.grown {w w2 w3:World} {s:ByteArray} {q q':Nat} {v v':Value} {ts ts':List (Nat×List UInt8)} (h:Pd w s q v ts w2) (hg:w2.grownBy w3 (some (w.heap.size+1))) (hc:Cur w3 (w.heap.size+1) s q')
 (ho:w3.ownsRow (w.heap.size+1) 40 2 v' ts'.length (Yf (ts'.map natT))):Pd w s q' v' ts' w3 :=
 ⟨by rw [hg.block _ (Array.getElem?_eq_some_iff.1 h.r).1 (by simp)];exact h.r,hc,ho,h.bel.grown hg h.bel.size (fun k e=>by simp at e;omega)⟩
theorem Jy (w:World) (x0 x1 x2 x3:Value) (t:TypeId):(w.alloc (.cells #[x0,x1,x2,x3] t)).cell? ⟨w.heap.size,0,none⟩=some x0∧(w.alloc (.cells #[x0,x1,x2,x3] t)).cell? ⟨w.heap.size,1,none⟩=some x1 ∧
 (w.alloc (.cells #[x0,x1,x2,x3] t)).cell? ⟨w.heap.size,2,none⟩=some x2∧(w.alloc (.cells #[x0,x1,x2,x3] t)).cell? ⟨w.heap.size,3,none⟩=some x3:=by
 refine ⟨?_,?_,?_,?_⟩
 ·rw [cell_of_row _ w.heap.size 0 _ t (0,0) (heap_alloc_new w _)];rfl
 ·rw [cell_of_row _ w.heap.size 1 _ t (0,0) (heap_alloc_new w _)];rfl
 ·rw [cell_of_row _ w.heap.size 2 _ t (0,0) (heap_alloc_new w _)];rfl
 ·rw [cell_of_row _ w.heap.size 3 _ t (0,0) (heap_alloc_new w _)];rfl
theorem Yb {w w':World} {b:Nat} {x0 x1 x2 x3:Value} (h:w.cell? ⟨b,0,none⟩=some x0∧w.cell? ⟨b,1,none⟩=some x1∧w.cell? ⟨b,2,none⟩=some x2∧w.cell? ⟨b,3,none⟩=some x3) (hlt:b<w.heap.size) (hb:Bw w w') :
 w'.cell? ⟨b,0,none⟩=some x0∧w'.cell? ⟨b,1,none⟩=some x1∧w'.cell? ⟨b,2,none⟩=some x2∧w'.cell? ⟨b,3,none⟩=some x3 :=
 ⟨(hb.cell (p:=⟨b,0,none⟩) hlt).trans h.1,(hb.cell (p:=⟨b,1,none⟩) hlt).trans h.2.1,(hb.cell (p:=⟨b,2,none⟩) hlt).trans h.2.2.1,(hb.cell (p:=⟨b,3,none⟩) hlt).trans h.2.2.2⟩
theorem Xl (s:ByteArray) (hs:s.size≤maxLen) (w:World) :
 Calls Tryz.prog 149 #[.string s] w fun e w'=>DOut s.data.toList w e w':=by
 have hlen:s.data.toList.length=s.size:=by simp
 unfold maxLen at hs
 by_cases hbig:2000<s.size
 ·have HE:Hid (pdE s.data.toList=5):=by rw [Hid,pdE,if_pos (by rw [hlen];exact hbig)]
  clear hlen
  go_enter Tryz.func149,Tryz.ntmps149
  go_wp2
  exact bodyPost_ret (v:=.tuple #[.agg #[.slice none 0 0,.bool false,.int .i64 0,.string ⟨#[]⟩],.int .i64 5]) (by simp [results,Tryz.results149,go_sem, *]) rfl (Zs HE.out (by decide) ((Below.refl _ _).alloc (Nat.le_refl _) _))
 ·have HR:=Zd5 (w.heap.size+1) s 0 (Nat.zero_le _) (by omega) _ (Pd.first w s).cur
  have hl2:s.data.toList.length≤2000:=by rw [hlen];omega
  have hE:pdE s.data.toList=match Zap s.data.toList with
   | none=>4
   | some d=>if Y7 d then 5 else 0:=by rw [pdE,if_neg (by rw [hlen];exact hbig)]
  have HN:Hid (∀ w,_):=Js s
  have HA:Hid (∀ (q:Nat) (v:Value) (ts:List (Nat×List UInt8)) (w3:World),Hid (Pd w s q v ts w3)→Calls Tryz.prog 172 #[.pointer (some ⟨w.heap.size+1,0,none⟩)] w3 fun e w'=>e=.returned (.bool (decide (q=s.size)))∧Bw w3 w') :=
   fun q v ts w3 h=>Zfh (w.heap.size+1) s q w3 h.out.cur
  have hrd:=Yi s.data.toList
  unfold Qu at HR
  rw [List.drop_zero] at HR
  have hws:((w.alloc (.cells Jd 198)).alloc (.cells #[.string s,.int .i64 0] 233)).heap.size=w.heap.size+2:=by simp
  cases hr:descOf s.data.toList with
  | none =>
    rw [hr] at hrd HR
    have HE:Hid (pdE s.data.toList=4):=by rw [Hid,hE,hrd]
    have HQ:Hid (Calls Tryz.prog 171 #[.pointer (some ⟨w.heap.size+1,0,none⟩)] ((w.alloc (.cells #[.slice none 0 0,.bool false,.int .i64 0,.string ⟨#[]⟩] 198)).alloc (.cells #[.string s,.int .i64 0] 233)) fun e w'=>e=.returned (.tuple #[.agg #[.slice none 0 0,.bool false,.int .i64 0,.string ⟨#[]⟩],.bool false])∧∃ q,Hid (Pd w s q (.slice none 0 0) [] w')) :=
     HR.mono fun e w' ⟨⟨he,q,_,hc⟩,hg⟩=>⟨he,q,(Pd.first w s).grown hg hc (World.ownsRow_nil _ _ _ _)⟩
    clear hE HR hr hlen hrd hws hl2 HA
    go_enter Tryz.func149,Tryz.ntmps149
    go_wp2_with (first
     | (go_at_call 170;refine ((HN.out) _).mono ?_;rintro e w1 ⟨rfl,rfl⟩)
     | (go_at_call 171;refine (HQ.out).mono ?_;rintro e w2 ⟨rfl,q,hP⟩;obtain ⟨c0,c1,c2,c3,f0,f1,f2,f3,hz,hz'⟩:=hP.out.cells))
    exact bodyPost_ret (v:=.tuple #[.agg #[.slice none 0 0,.bool false,.int .i64 0,.string ⟨#[]⟩],.int .i64 4]) (by simp [results,Tryz.results149,go_sem, *]) rfl (Zs HE.out (by decide) ((hP.out.done _ _ _ _).2.alloc ((hP.out.done _ _ _ _).2.size) _))
  | some p =>
    obtain ⟨⟨ts,x⟩,r⟩:=p
    rw [hr] at hrd HR
    have HQ:Hid (Calls Tryz.prog 171 #[.pointer (some ⟨w.heap.size+1,0,none⟩)] ((w.alloc (.cells #[.slice none 0 0,.bool false,.int .i64 0,.string ⟨#[]⟩] 198)).alloc (.cells #[.string s,.int .i64 0] 233)) fun e w'=>∃ v,e=.returned (.tuple #[.agg #[v,.bool (Qv x),.int .i64 (retT x).1,.string ⟨(retT x).2.toArray⟩],.bool true])∧Hid (Pd w s (s.size - r.length) v ts w')) :=
     HR.mono fun e w' ⟨⟨v,he,ho,hc⟩,hg⟩=>⟨v,he,(Pd.first w s).grown hg hc (Zau ho (by rw [hws];omega))⟩
    have hrl:r.length≤s.size→r≠[]→decide (s.size - r.length=s.size)=false:=fun h1 h2=>by
     have:0<r.length:=List.length_pos_iff.2 h2
     simp;omega
    cases r with
    | cons c r2 =>
      have HE:Hid (pdE s.data.toList=4):=by rw [Hid,hE,hrd]
      obtain ⟨m,hm⟩:∃ m:Nat,s.size - (c::r2).length=m:=⟨_,rfl⟩
      have hne:decide (m=s.size)=false:=by
       rw [← hm]
       by_cases h0:s.size=0
       ·have:s.data.toList=[]:=List.length_eq_zero_iff.1 (by rw [hlen];exact h0)
        rw [this] at hr
        simp [descOf,Z7] at hr
       ·simp;omega
      rw [hm] at HQ
      have HA':Hid (∀ v w3,Hid (Pd w s m v ts w3)→Calls Tryz.prog 172 #[.pointer (some ⟨w.heap.size+1,0,none⟩)] w3 fun e w'=>e=.returned (.bool false)∧Bw w3 w'):=fun v w3 h=>by have:=HA.out m v ts w3 h;rw [hne] at this;exact this
      clear hE HR hr hlen hrd hws hl2 HA hm hne hrl
      generalize (retT x).1=rd at *
      generalize (⟨(retT x).2.toArray⟩:ByteArray)=rn at *
      generalize Qv x=vb at *
      go_enter Tryz.func149,Tryz.ntmps149
      go_wp2_with (first
       | (go_at_call 170;refine ((HN.out) _).mono ?_;rintro e w1 ⟨rfl,rfl⟩)
       | (go_at_call 171;refine (HQ.out).mono ?_;rintro e w2 ⟨v,rfl,hP0⟩;obtain ⟨ao,cap,rfl⟩:=Zh hP0.out.own;have hP:Hid (Pd w s m (.slice ao ts.length cap) ts (w2.alloc (.cells #[.slice ao ts.length cap,.bool vb,.int .i64 rd,.string rn] 198))):=hP0.out.keep ((Below.refl _ _).alloc (Nat.le_refl _) _);have hz2:=hP0.out.cells.2.2.2.2.2.2.2.2.2)
       | (go_at_call 172;refine (HA'.out _ _ hP).mono ?_;rintro e w3 ⟨rfl,hb3⟩;have hP3:Hid (Pd w s m (.slice ao ts.length cap) ts w3):=hP.out.keep hb3;have hs3:w2.heap.size<w3.heap.size:=sqS hb3;obtain ⟨t0,t1,t2,t3⟩:=Yb (Jy w2 _ _ _ _ 198) (by simp) hb3;clear hb3;obtain ⟨d0,d1,d2,d3,g0,g1,g2,g3,hy,hy'⟩:=hP3.out.cells))
      exact bodyPost_ret (v:=.tuple #[.agg #[.slice none 0 0,.bool false,.int .i64 0,.string ⟨#[]⟩],.int .i64 4]) (by simp [results,Tryz.results149,go_sem, *]) rfl (Zs HE.out (by decide) (hP3.out.done _ _ _ _).2)
    | nil =>
      have h0:s.size - ([]:List UInt8).length=s.size:=rfl
      rw [h0] at HQ
      have HA':Hid (∀ v w3,Hid (Pd w s s.size v ts w3)→Calls Tryz.prog 172 #[.pointer (some ⟨w.heap.size+1,0,none⟩)] w3 fun e w'=>e=.returned (.bool true)∧Bw w3 w'):=fun v w3 h=>by have:=HA.out s.size v ts w3 h;simp only [decide_true] at this;exact this
      have HD:Hid (∀ w,_):=Qo (retT x).1 ⟨(retT x).2.toArray⟩
      have HK:Hid (∀ (v:Value) (w4:World),Hid (Pd w s s.size v ts w4)→Calls Tryz.prog 173 #[v,.func (.func 140) #[] #[]] w4 fun e w'=>e=.returned (.bool ((ts.map natT).any Xv))∧Bw w4 w') :=
       fun v w4 h=>Zfd v (ts.map natT) w4 (own_tys (by rw [List.length_map];exact h.out.own))
      have hLE:Y7 (ts,x)=true→pdE s.data.toList=5:=fun h=>by rw [hE,hrd];simp [h]
      have hlg:Y7 (ts,x)=(decide (20<ts.length)||decide (255<(retT x).1)||(ts.map natT).any Xv):=rfl
      by_cases h20:20<ts.length
      ·have HE:Hid (pdE s.data.toList=5):=hLE (by rw [hlg];simp [h20])
       have hdl:decide (20<(ts.length:Int))=true:=by simp;omega
       clear hE HR hr hlen hrd hws hl2 HA hrl h0 hLE hlg HD HK
       generalize (retT x).1=rd at *
       generalize (⟨(retT x).2.toArray⟩:ByteArray)=rn at *
       generalize Qv x=vb at *
       go_enter Tryz.func149,Tryz.ntmps149
       go_wp2_with (first
        | (go_at_call 170;refine ((HN.out) _).mono ?_;rintro e w1 ⟨rfl,rfl⟩)
        | (go_at_call 171;refine (HQ.out).mono ?_;rintro e w2 ⟨v,rfl,hP0⟩;obtain ⟨ao,cap,rfl⟩:=Zh hP0.out.own;have hP:Hid (Pd w s s.size (.slice ao ts.length cap) ts (w2.alloc (.cells #[.slice ao ts.length cap,.bool vb,.int .i64 rd,.string rn] 198))):=hP0.out.keep ((Below.refl _ _).alloc (Nat.le_refl _) _);have hz2:=hP0.out.cells.2.2.2.2.2.2.2.2.2)
        | (go_at_call 172;refine (HA'.out _ _ hP).mono ?_;rintro e w3 ⟨rfl,hb3⟩;have hP3:Hid (Pd w s s.size (.slice ao ts.length cap) ts w3):=hP.out.keep hb3;have hs3:w2.heap.size<w3.heap.size:=sqS hb3;obtain ⟨t0,t1,t2,t3⟩:=Yb (Jy w2 _ _ _ _ 198) (by simp) hb3;clear hb3;obtain ⟨d0,d1,d2,d3,g0,g1,g2,g3,hy,hy'⟩:=hP3.out.cells))
       exact bodyPost_ret (v:=.tuple #[.agg #[.slice none 0 0,.bool false,.int .i64 0,.string ⟨#[]⟩],.int .i64 5]) (by simp [results,Tryz.results149,go_sem, *]) rfl (Zs HE.out (by decide) (hP3.out.done _ _ _ _).2)
      ·have hdl:decide (20<(ts.length:Int))=false:=by simp;omega
       by_cases hdp:255<(retT x).1
       ·have HE:Hid (pdE s.data.toList=5):=hLE (by rw [hlg];simp [hdp])
        have hdd:decide ((255:Int)<(((retT x).1:Nat):Int))=true:=by simp;omega
        rw [hdd] at HD
        clear hE HR hr hlen hrd hws hl2 HA hrl h0 hLE hlg HK hdd hdp
        generalize (retT x).1=rd at *
        generalize (⟨(retT x).2.toArray⟩:ByteArray)=rn at *
        generalize Qv x=vb at *
        go_enter Tryz.func149,Tryz.ntmps149
        go_wp2_with (first
         | (go_at_call 170;refine ((HN.out) _).mono ?_;rintro e w1 ⟨rfl,rfl⟩)
         | (go_at_call 171;refine (HQ.out).mono ?_;rintro e w2 ⟨v,rfl,hP0⟩;obtain ⟨ao,cap,rfl⟩:=Zh hP0.out.own;have hP:Hid (Pd w s s.size (.slice ao ts.length cap) ts (w2.alloc (.cells #[.slice ao ts.length cap,.bool vb,.int .i64 rd,.string rn] 198))):=hP0.out.keep ((Below.refl _ _).alloc (Nat.le_refl _) _);have hz2:=hP0.out.cells.2.2.2.2.2.2.2.2.2)
         | (go_at_call 172;refine (HA'.out _ _ hP).mono ?_;rintro e w3 ⟨rfl,hb3⟩;have hP3:Hid (Pd w s s.size (.slice ao ts.length cap) ts w3):=hP.out.keep hb3;have hs3:w2.heap.size<w3.heap.size:=sqS hb3;obtain ⟨t0,t1,t2,t3⟩:=Yb (Jy w2 _ _ _ _ 198) (by simp) hb3;clear hb3;obtain ⟨d0,d1,d2,d3,g0,g1,g2,g3,hy,hy'⟩:=hP3.out.cells)
         | (go_at_call 140;refine ((HD.out) _).mono ?_;rintro e w4 ⟨rfl,hb4⟩;have hP4:Hid (Pd w s s.size (.slice ao ts.length cap) ts w4):=hP3.out.keep hb4;have hs4:w2.heap.size<w4.heap.size:=(by have:=hb4.size;omega);obtain ⟨y0,y1,y2,y3⟩:=Yb ⟨t0,t1,t2,t3⟩ hs3 hb4;clear hb4;obtain ⟨j0,j1,j2,j3,k0,k1,k2,k3,hx,hx'⟩:=hP4.out.cells))
        exact bodyPost_ret (v:=.tuple #[.agg #[.slice none 0 0,.bool false,.int .i64 0,.string ⟨#[]⟩],.int .i64 5]) (by simp [results,Tryz.results149,go_sem, *]) rfl (Zs HE.out (by decide) (hP4.out.done _ _ _ _).2)
       ·have hdd:decide ((255:Int)<(((retT x).1:Nat):Int))=false:=by simp;omega
        rw [hdd] at HD
        cases hany:(ts.map natT).any Xv with
        | true =>
          have HE:Hid (pdE s.data.toList=5):=hLE (by rw [hlg,hany];simp)
          rw [hany] at HK
          clear hE HR hr hlen hrd hws hl2 HA hrl h0 hLE hlg hdd hdp hany
          generalize (retT x).1=rd at *
          generalize (⟨(retT x).2.toArray⟩:ByteArray)=rn at *
          generalize Qv x=vb at *
          go_enter Tryz.func149,Tryz.ntmps149
          go_wp2_with (first
           | (go_at_call 170;refine ((HN.out) _).mono ?_;rintro e w1 ⟨rfl,rfl⟩)
           | (go_at_call 171;refine (HQ.out).mono ?_;rintro e w2 ⟨v,rfl,hP0⟩;obtain ⟨ao,cap,rfl⟩:=Zh hP0.out.own;have hP:Hid (Pd w s s.size (.slice ao ts.length cap) ts (w2.alloc (.cells #[.slice ao ts.length cap,.bool vb,.int .i64 rd,.string rn] 198))):=hP0.out.keep ((Below.refl _ _).alloc (Nat.le_refl _) _);have hz2:=hP0.out.cells.2.2.2.2.2.2.2.2.2)
           | (go_at_call 172;refine (HA'.out _ _ hP).mono ?_;rintro e w3 ⟨rfl,hb3⟩;have hP3:Hid (Pd w s s.size (.slice ao ts.length cap) ts w3):=hP.out.keep hb3;have hs3:w2.heap.size<w3.heap.size:=sqS hb3;obtain ⟨t0,t1,t2,t3⟩:=Yb (Jy w2 _ _ _ _ 198) (by simp) hb3;clear hb3;obtain ⟨d0,d1,d2,d3,g0,g1,g2,g3,hy,hy'⟩:=hP3.out.cells)
           | (go_at_call 140;refine ((HD.out) _).mono ?_;rintro e w4 ⟨rfl,hb4⟩;have hP4:Hid (Pd w s s.size (.slice ao ts.length cap) ts w4):=hP3.out.keep hb4;have hs4:w2.heap.size<w4.heap.size:=(by have:=hb4.size;omega);obtain ⟨y0,y1,y2,y3⟩:=Yb ⟨t0,t1,t2,t3⟩ hs3 hb4;clear hb4;obtain ⟨j0,j1,j2,j3,k0,k1,k2,k3,hx,hx'⟩:=hP4.out.cells)
           | (go_at_call 173;refine ((HK.out) _ _ hP4).mono ?_;rintro e w5 ⟨rfl,hb5⟩;have hP5:Hid (Pd w s s.size (.slice ao ts.length cap) ts w5):=hP4.out.keep hb5;obtain ⟨z0,z1,z2,z3⟩:=Yb ⟨y0,y1,y2,y3⟩ hs4 hb5;clear hb5;obtain ⟨l0,l1,l2,l3,m0,m1,m2,m3,hv,hv'⟩:=hP5.out.cells))
          exact bodyPost_ret (v:=.tuple #[.agg #[.slice none 0 0,.bool false,.int .i64 0,.string ⟨#[]⟩],.int .i64 5]) (by simp [results,Tryz.results149,go_sem, *]) rfl (Zs HE.out (by decide) (hP5.out.done _ _ _ _).2)
        | false =>
          have HG:Hid (Y7 (ts,x)=false):=by rw [Hid,hlg,hany];simp;omega
          have HO:Hid (∀ (v:Value) (w':World),w'.ownsRow w.heap.size 40 2 v ts.length (Yf (ts.map natT))→Bw w w'→DOut s.data.toList w (.returned (.tuple #[.agg #[v,.bool (Qv x),.int .i64 (retT x).1,.string ⟨(retT x).2.toArray⟩],.int .i64 0])) w') :=
           fun v w' ho hb=>Zgf hrd hl2 HG.out ho hb
          rw [hany] at HK
          clear hE HR hr hlen hrd hws hl2 HA hrl h0 hLE hlg hdd hdp hany HG
          generalize (retT x).1=rd at *
          generalize (⟨(retT x).2.toArray⟩:ByteArray)=rn at *
          generalize Qv x=vb at *
          go_enter Tryz.func149,Tryz.ntmps149
          go_wp2_with (first
           | (go_at_call 170;refine ((HN.out) _).mono ?_;rintro e w1 ⟨rfl,rfl⟩)
           | (go_at_call 171;refine (HQ.out).mono ?_;rintro e w2 ⟨v,rfl,hP0⟩;obtain ⟨ao,cap,rfl⟩:=Zh hP0.out.own;have hP:Hid (Pd w s s.size (.slice ao ts.length cap) ts (w2.alloc (.cells #[.slice ao ts.length cap,.bool vb,.int .i64 rd,.string rn] 198))):=hP0.out.keep ((Below.refl _ _).alloc (Nat.le_refl _) _);have hz2:=hP0.out.cells.2.2.2.2.2.2.2.2.2)
           | (go_at_call 172;refine (HA'.out _ _ hP).mono ?_;rintro e w3 ⟨rfl,hb3⟩;have hP3:Hid (Pd w s s.size (.slice ao ts.length cap) ts w3):=hP.out.keep hb3;have hs3:w2.heap.size<w3.heap.size:=sqS hb3;obtain ⟨t0,t1,t2,t3⟩:=Yb (Jy w2 _ _ _ _ 198) (by simp) hb3;clear hb3;obtain ⟨d0,d1,d2,d3,g0,g1,g2,g3,hy,hy'⟩:=hP3.out.cells)
           | (go_at_call 140;refine ((HD.out) _).mono ?_;rintro e w4 ⟨rfl,hb4⟩;have hP4:Hid (Pd w s s.size (.slice ao ts.length cap) ts w4):=hP3.out.keep hb4;have hs4:w2.heap.size<w4.heap.size:=(by have:=hb4.size;omega);obtain ⟨y0,y1,y2,y3⟩:=Yb ⟨t0,t1,t2,t3⟩ hs3 hb4;clear hb4;obtain ⟨j0,j1,j2,j3,k0,k1,k2,k3,hx,hx'⟩:=hP4.out.cells)
           | (go_at_call 173;refine ((HK.out) _ _ hP4).mono ?_;rintro e w5 ⟨rfl,hb5⟩;have hP5:Hid (Pd w s s.size (.slice ao ts.length cap) ts w5):=hP4.out.keep hb5;obtain ⟨z0,z1,z2,z3⟩:=Yb ⟨y0,y1,y2,y3⟩ hs4 hb5;clear hb5;obtain ⟨l0,l1,l2,l3,m0,m1,m2,m3,hv,hv'⟩:=hP5.out.cells))
          exact bodyPost_ret (v:=.tuple #[.agg #[.slice ao ts.length cap,.bool vb,.int .i64 rd,.string rn],.int .i64 0]) (by simp [results,Tryz.results149,go_sem, *]) rfl (HO.out _ _ (hP5.out.done _ _ _ _).1 (hP5.out.done _ _ _ _).2)
theorem X6 (s:ByteArray) (hs:s.size≤maxLen) (w:World) :
 Calls Tryz.prog 213 #[.string s] w fun e w'=>e=.returned (.tuple #[.agg #[.int .i64 (prfT s.data.toList).1,.string ⟨(prfT s.data.toList).2.toArray⟩],.int .i64 (prfE s.data.toList)])∧Bw w w':=by
 have hlen:s.data.toList.length=s.size:=by simp
 have HP:Hid (∀ w,_):=Zed s hs
 have HV:Hid (∀ w,_):=Yx s hs
 have HH:Hid (∀ w,_):=Ju s 91
 have hE:prfE s.data.toList=if s.data.toList.head?=some 91 then parE s.data.toList else if 2000<s.data.toList.length then 5 else if Zj s.data.toList then 0 else 4:=by
  unfold prfE
  by_cases h1:s.data.toList.head?=some 91
  ·by_cases h2:2000<s.data.toList.length
   ·rw [if_pos h2,if_pos h1,parE,if_pos h2]
   ·rw [if_neg h2,if_pos h1,if_pos h1]
  ·rw [if_neg h1,if_neg h1]
 have hT:prfT s.data.toList=if s.data.toList.head?=some 91 then parT s.data.toList else if 2000<s.data.toList.length then (0,[]) else if Zj s.data.toList then (0,s.data.toList) else (0,[]):=by
  unfold prfT
  by_cases h1:s.data.toList.head?=some 91
  ·by_cases h2:2000<s.data.toList.length
   ·rw [if_pos h2,if_pos h1,parT,parE,if_pos h2];rfl
   ·rw [if_neg h2,if_pos h1,if_pos h1]
  ·rw [if_neg h1,if_neg h1]
 unfold maxLen at hs
 by_cases hh:s.data.toList.head?=some 91
 ·have h0:hd s 91=true:=by simp [hd,hh]
  rw [h0] at HH
  have HE:Hid (prfE s.data.toList=parE s.data.toList):=by rw [Hid,hE,if_pos hh]
  have HT:Hid (prfT s.data.toList=parT s.data.toList):=by rw [Hid,hT,if_pos hh]
  clear hlen HV hh hE hT h0
  generalize prfE s.data.toList=x at *
  generalize prfT s.data.toList=t at *
  generalize parE s.data.toList=pe at *
  generalize parT s.data.toList=pt at *
  go_enter Tryz.func213,Tryz.ntmps213
  go_wp2_with (first
   | (go_at_call 196;refine ((HH.out) _).mono ?_;rintro e w0 ⟨rfl,rfl⟩)
   | (go_at_call 214;refine ((HP.out) _).mono ?_;rintro e w1 ⟨rfl,hb1⟩;have hr0:=hb1.cell (p:=⟨w.heap.size,0,none⟩) (by simp);have hr1:=hb1.cell (p:=⟨w.heap.size,1,none⟩) (by simp);have hf0:=hb1.frozen (p:=⟨w.heap.size,0,none⟩) (by simp);have hf1:=hb1.frozen (p:=⟨w.heap.size,1,none⟩) (by simp)))
  refine bodyPost_ret (v:=.tuple #[.agg #[.int .i64 pt.1,.string ⟨pt.2.toArray⟩],.int .i64 pe]) (by simp [results,Tryz.results213,go_sem, *]) rfl ⟨?_,?_⟩
  ·rw [HT.out,HE.out]
  ·have hb9:Bw w w1:=sqT hb1
   exact (hb9.setCell (Nat.le_refl _) _).setCell (Nat.le_refl _) _
 ·have h0:hd s 91=false:=by simp [hd,hh]
  rw [h0] at HH
  by_cases hbig:2000<s.size
  ·have HE:Hid (prfE s.data.toList=5):=by rw [Hid,hE,if_neg hh,if_pos (by rw [hlen];exact hbig)]
   have HT:Hid (prfT s.data.toList=(0,[])):=by rw [Hid,hT,if_neg hh,if_pos (by rw [hlen];exact hbig)]
   clear hlen HV hh hE hT h0 HP
   generalize prfE s.data.toList=x at *
   generalize prfT s.data.toList=t at *
   go_enter Tryz.func213,Tryz.ntmps213
   go_wp2_with (go_at_call 196;refine ((HH.out) _).mono ?_;rintro e w0 ⟨rfl,rfl⟩)
   refine bodyPost_ret (v:=.tuple #[.agg #[.int .i64 0,.string ⟨#[]⟩],.int .i64 5]) (by simp [results,Tryz.results213,go_sem, *]) rfl ⟨?_,?_⟩
   ·rw [HT.out,HE.out];rfl
   ·exact (Below.refl _ _).alloc (Nat.le_refl _) _
  ·have hng:¬ 2000<s.data.toList.length:=by rw [hlen];exact hbig
   cases hv:Zj s.data.toList with
   | true =>
     have HE:Hid (prfE s.data.toList=0):=by rw [Hid,hE,if_neg hh,if_neg hng,hv];rfl
     have HT:Hid (prfT s.data.toList=(0,s.data.toList)):=by rw [Hid,hT,if_neg hh,if_neg hng,hv];rfl
     rw [hv] at HV
     clear hlen HP hh hng hv hE hT h0
     generalize prfE s.data.toList=x at *
     generalize prfT s.data.toList=t at *
     go_enter Tryz.func213,Tryz.ntmps213
     go_wp2_with (first
      | (go_at_call 196;refine ((HH.out) _).mono ?_;rintro e w0 ⟨rfl,rfl⟩)
      | (go_at_call 122;refine ((HV.out) _).mono ?_;rintro e w1 ⟨rfl,hb1⟩;have hr0:=hb1.cell (p:=⟨w.heap.size,0,none⟩) (by simp);have hr1:=hb1.cell (p:=⟨w.heap.size,1,none⟩) (by simp);have hf0:=hb1.frozen (p:=⟨w.heap.size,0,none⟩) (by simp);have hf1:=hb1.frozen (p:=⟨w.heap.size,1,none⟩) (by simp)))
     refine bodyPost_ret (v:=.tuple #[.agg #[.int .i64 0,.string s],.int .i64 0]) (by simp [results,Tryz.results213,go_sem, *]) rfl ⟨?_,?_⟩
     ·rw [HT.out,HE.out];rfl
     ·have hb9:Bw w w1:=sqT hb1
      exact (hb9.setCell (Nat.le_refl _) _).setCell (Nat.le_refl _) _
   | false =>
     have HE:Hid (prfE s.data.toList=4):=by rw [Hid,hE,if_neg hh,if_neg hng,hv];rfl
     have HT:Hid (prfT s.data.toList=(0,[])):=by rw [Hid,hT,if_neg hh,if_neg hng,hv];rfl
     rw [hv] at HV
     clear hlen HP hh hng hv hE hT h0
     generalize prfE s.data.toList=x at *
     generalize prfT s.data.toList=t at *
     go_enter Tryz.func213,Tryz.ntmps213
     go_wp2_with (first
      | (go_at_call 196;refine ((HH.out) _).mono ?_;rintro e w0 ⟨rfl,rfl⟩)
      | (go_at_call 122;refine ((HV.out) _).mono ?_;rintro e w1 ⟨rfl,hb1⟩;have hr0:=hb1.cell (p:=⟨w.heap.size,0,none⟩) (by simp);have hr1:=hb1.cell (p:=⟨w.heap.size,1,none⟩) (by simp);have hf0:=hb1.frozen (p:=⟨w.heap.size,0,none⟩) (by simp);have hf1:=hb1.frozen (p:=⟨w.heap.size,1,none⟩) (by simp)))
     refine bodyPost_ret (v:=.tuple #[.agg #[.int .i64 0,.string ⟨#[]⟩],.int .i64 4]) (by simp [results,Tryz.results213,go_sem, *]) rfl ⟨?_,?_⟩
     ·rw [HT.out,HE.out];rfl
     ·have hb9:Bw w w1:=sqT hb1
      exact (hb9.setCell (Nat.le_refl _) _).setCell (Nat.le_refl _) _
theorem Xz (d:Int) (s:ByteArray) (hs:s.size≤maxLen) (w:World) :
 Calls Tryz.prog 117 #[.agg #[.int .i64 d,.string s]] w fun e w'=>e=.returned (.int .i64 (chkI (sndB d s.data.toList)))∧Bw w w':=by
 have HV:Hid (∀ w,_):=Yk s hs
 have HB:Hid (sndB d s.data.toList=(decide (0≤d)&&decide (d≤255)&&(s.toList.isEmpty||Zj s.data.toList))):=by rw [Hid,Lib.toList_data];rfl
 generalize Zj s.data.toList=b at *
 generalize sndB d s.data.toList=r at *
 by_cases h1:0≤d
 ·by_cases h2:d≤255
  ·cases he:s.toList.isEmpty with
   | true =>
     have HR:Hid (r=true):=by rw [Hid,HB.out,he];simp [h1,h2]
     go_enter Tryz.func117,Tryz.ntmps117
     go_wp2
     go_ret
     exact ⟨Ze (by rw [HR.out];rfl),(Below.refl _ _).alloc (Nat.le_refl _) _⟩
   | false =>
     have HR:Hid (r=b):=by rw [Hid,HB.out,he];simp [h1,h2]
     cases b
     all_goals
      go_enter Tryz.func117,Tryz.ntmps117
      go_wp2_with (go_at_call 100;refine ((HV.out) _).mono ?_;rintro e w1 ⟨rfl,hb1⟩)
      go_ret
      exact ⟨Ze (by rw [HR.out];rfl),Below.step ((Below.refl _ _).alloc (Nat.le_refl _) _) (by assumption)⟩
  ·have HR:Hid (r=false):=by rw [Hid,HB.out];simp [h2]
   go_enter Tryz.func117,Tryz.ntmps117
   go_wp2
   go_ret
   exact ⟨Ze (by rw [HR.out];rfl),(Below.refl _ _).alloc (Nat.le_refl _) _⟩
 ·have HR:Hid (r=false):=by rw [Hid,HB.out];simp [h1]
  have h1':d<0:=by omega
  go_enter Tryz.func117,Tryz.ntmps117
  go_wp2
  go_ret
  exact ⟨Ze (by rw [HR.out];rfl),(Below.refl _ _).alloc (Nat.le_refl _) _⟩
theorem Zh2 (d1 d2:Int) (s1 s2:ByteArray) (w:World) :
 Calls Tryz.prog 42 #[.agg #[.int .i64 d1,.string s1],.agg #[.int .i64 d2,.string s2]] w fun e w'=>e=.returned (.bool (decide (d1=d2)&&decide (s1=s2)))∧Bw w w':=by
 have hb:(s1.toList == s2.toList)=decide (s1=s2):=by
  rw [Bool.eq_iff_iff]
  simp only [beq_iff_eq,decide_eq_true_eq]
  exact ⟨fun h=>Yp (by rw [← Lib.toList_data,← Lib.toList_data,h]),fun h=>by rw [h]⟩
 have hd:(d1 == d2)=decide (d1=d2):=by rw [Bool.eq_iff_iff];simp
 have HB:Hid _:=hb
 have HD:Hid _:=hd
 clear hb hd
 cases he:(d1 == d2) with
 | false =>
   go_enter Tryz.func42,Tryz.ntmps42
   go_wp2
   go_ret
   exact ⟨Zb (by rw [← HD.out,he];simp),((Below.refl _ _).alloc (Nat.le_refl _) _).alloc (by simp) _⟩
 | true =>
   have he':d1=d2:=by simpa using he
   subst he'
   clear he
   go_enter Tryz.func42,Tryz.ntmps42
   go_wp2
   go_ret
   exact ⟨Zb (by rw [← HB.out]),((Below.refl _ _).alloc (Nat.le_refl _) _).alloc (by simp) _⟩
theorem Q6 (d:Int) (s:ByteArray) (hs:s.size≤maxLen) (w:World) :
 Calls Tryz.prog 112 #[.agg #[.int .i64 d,.string s]] w fun e w'=>e=.returned (.int .i64 (chkI (sndB d s.data.toList)))∧Bw w w':=by
 have HV:Hid (∀ w,_):=Yx s hs
 have HD:Hid (∀ w,_):=Qo d s
 have HB:Hid (sndB d s.data.toList=(decide (0≤d)&&decide (d≤255)&&(s.toList.isEmpty||Zj s.data.toList))):=by rw [Hid,Lib.toList_data];rfl
 generalize Zj s.data.toList=b at *
 generalize sndB d s.data.toList=r at *
 by_cases h1:0≤d
 ·have h1':¬ d<0:=by omega
  by_cases h2:d≤255
  ·have h3:decide (255<d)=false:=by simp;omega
   rw [h3] at HD
   clear h3
   cases he:s.toList.isEmpty with
   | true =>
     have HR:Hid (r=true):=by rw [Hid,HB.out,he];simp [h1,h2]
     go_enter Tryz.func112,Tryz.ntmps112
     go_wp2_with (go_at_call 140;refine ((HD.out) _).mono ?_;rintro e w0 ⟨rfl,hb0⟩;have hc0:=hb0.cell (p:=⟨w.heap.size,0,none⟩) (by simp);have hc1:=hb0.cell (p:=⟨w.heap.size,1,none⟩) (by simp))
     go_ret
     exact ⟨Ze (by rw [HR.out];rfl),Below.step ((Below.refl _ _).alloc (Nat.le_refl _) _) (by assumption)⟩
   | false =>
     have HR:Hid (r=b):=by rw [Hid,HB.out,he];simp [h1,h2]
     cases b
     all_goals
      go_enter Tryz.func112,Tryz.ntmps112
      go_wp2_with (first
       | (go_at_call 140;refine ((HD.out) _).mono ?_;rintro e w0 ⟨rfl,hb0⟩;have hc0:=hb0.cell (p:=⟨w.heap.size,0,none⟩) (by simp);have hc1:=hb0.cell (p:=⟨w.heap.size,1,none⟩) (by simp))
       | (go_at_call 122;refine ((HV.out) _).mono ?_;rintro e w1 ⟨rfl,hb1⟩))
      go_ret
      exact ⟨Ze (by rw [HR.out];rfl),Below.step (sqT hb0) hb1⟩
  ·have HR:Hid (r=false):=by rw [Hid,HB.out];simp [h2]
   have h3:decide (255<d)=true:=by simp;omega
   rw [h3] at HD
   clear h3
   go_enter Tryz.func112,Tryz.ntmps112
   go_wp2_with (go_at_call 140;refine ((HD.out) _).mono ?_;rintro e w0 ⟨rfl,hb0⟩;have hc0:=hb0.cell (p:=⟨w.heap.size,0,none⟩) (by simp);have hc1:=hb0.cell (p:=⟨w.heap.size,1,none⟩) (by simp))
   go_ret
   exact ⟨Ze (by rw [HR.out];rfl),Below.step ((Below.refl _ _).alloc (Nat.le_refl _) _) (by assumption)⟩
 ·have HR:Hid (r=false):=by rw [Hid,HB.out];simp [h1]
  have h1':d<0:=by omega
  go_enter Tryz.func112,Tryz.ntmps112
  go_wp2
  go_ret
  exact ⟨Ze (by rw [HR.out];rfl),(Below.refl _ _).alloc (Nat.le_refl _) _⟩
theorem Zea (d:Int) (s:ByteArray) (hs:s.size≤maxLen) (w:World) :
 Calls Tryz.prog 76 #[.agg #[.int .i64 d,.string s]] w fun e w'=>e=.returned (.tuple #[.agg #[.int .i64 (outD (arrE d s.data.toList) (d+1)),.string (outS (arrE d s.data.toList) s)],.int .i64 (arrE d s.data.toList)])∧Bw w w':=by
 have HC:Hid (∀ w,_):=Xz d s hs
 have HQ:Hid (arrE d s.data.toList=if sndB d s.data.toList then (if d=255 then 5 else 0) else 1):=rfl
 generalize arrE d s.data.toList=x at *
 cases hv:sndB d s.data.toList with
 | false =>
   rw [hv] at HC HQ
   have h1:chkI false=1:=rfl
   rw [h1] at HC
   have HR:Hid (x=1):=HQ
   clear hv h1 HQ
   go_enter Tryz.func76,Tryz.ntmps76
   go_wp2_with (first
    | (go_at_call 117;refine ((HC.out) _).mono ?_;rintro e w1 ⟨rfl,hb1⟩;have hc0:=hb1.cell (p:=⟨w.heap.size,0,none⟩) (by first|(simp;done)|(simp;omega));have hc1:=hb1.cell (p:=⟨w.heap.size,1,none⟩) (by first|(simp;done)|(simp;omega));have hr0:=hb1.cell (p:=⟨w.heap.size+1,0,none⟩) (by first|(simp;done)|(simp;omega));have hr1:=hb1.cell (p:=⟨w.heap.size+1,1,none⟩) (by first|(simp;done)|(simp;omega));have hf0:=hb1.frozen (p:=⟨w.heap.size+1,0,none⟩) (by first|(simp;done)|(simp;omega));have hf1:=hb1.frozen (p:=⟨w.heap.size+1,1,none⟩) (by first|(simp;done)|(simp;omega));have hz1:=hb1.size))
   refine bodyPost_ret (v:=.tuple #[.agg #[.int .i64 0,.string ⟨#[]⟩],.int .i64 1]) (by simp [results,Tryz.results76,go_sem, *]) rfl ⟨?_,?_⟩
   ·rw [HR.out];rfl
   ·have hb9:Bw w w1:=Below.step (((Below.refl _ _).alloc (Nat.le_refl _) _).alloc (by simp) _) hb1
    exact (hb9.setCell (by show w.heap.size≤w.heap.size+1;omega) _).setCell (by show w.heap.size≤w.heap.size+1;omega) _
 | true =>
   obtain ⟨k,rfl,hk⟩:=Zcr hv
   rw [hv] at HC HQ
   have h1:chkI true=0:=rfl
   rw [h1] at HC
   clear hv h1
   by_cases h2:(k:Int)=255
   ·have HR:Hid (x=5):=by rw [Hid,HQ.out,if_pos rfl,if_pos h2]
    have h3:((k:Int) == 255)=true:=by simpa using h2
    clear HQ h2
    go_enter Tryz.func76,Tryz.ntmps76
    go_wp2_with (first
     | (go_at_call 117;refine ((HC.out) _).mono ?_;rintro e w1 ⟨rfl,hb1⟩;have hc0:=hb1.cell (p:=⟨w.heap.size,0,none⟩) (by first|(simp;done)|(simp;omega));have hc1:=hb1.cell (p:=⟨w.heap.size,1,none⟩) (by first|(simp;done)|(simp;omega));have hr0:=hb1.cell (p:=⟨w.heap.size+1,0,none⟩) (by first|(simp;done)|(simp;omega));have hr1:=hb1.cell (p:=⟨w.heap.size+1,1,none⟩) (by first|(simp;done)|(simp;omega));have hf0:=hb1.frozen (p:=⟨w.heap.size+1,0,none⟩) (by first|(simp;done)|(simp;omega));have hf1:=hb1.frozen (p:=⟨w.heap.size+1,1,none⟩) (by first|(simp;done)|(simp;omega));have hz1:=hb1.size))
    refine bodyPost_ret (v:=.tuple #[.agg #[.int .i64 0,.string ⟨#[]⟩],.int .i64 5]) (by simp [results,Tryz.results76,go_sem, *]) rfl ⟨?_,?_⟩
    ·rw [HR.out];rfl
    ·have hb9:Bw w w1:=Below.step (((Below.refl _ _).alloc (Nat.le_refl _) _).alloc (by simp) _) hb1
     exact (hb9.setCell (by show w.heap.size≤w.heap.size+1;omega) _).setCell (by show w.heap.size≤w.heap.size+1;omega) _
   ·have HR:Hid (x=0):=by rw [Hid,HQ.out,if_pos rfl,if_neg h2]
    have h3:((k:Int) == 255)=false:=by simpa using h2
    have h4:(k:Int)≠255:=h2
    clear HQ h2
    go_enter Tryz.func76,Tryz.ntmps76
    go_wp2_with (first
     | (go_at_call 117;refine ((HC.out) _).mono ?_;rintro e w1 ⟨rfl,hb1⟩;have hc0:=hb1.cell (p:=⟨w.heap.size,0,none⟩) (by first|(simp;done)|(simp;omega));have hc1:=hb1.cell (p:=⟨w.heap.size,1,none⟩) (by first|(simp;done)|(simp;omega));have hr0:=hb1.cell (p:=⟨w.heap.size+1,0,none⟩) (by first|(simp;done)|(simp;omega));have hr1:=hb1.cell (p:=⟨w.heap.size+1,1,none⟩) (by first|(simp;done)|(simp;omega));have hf0:=hb1.frozen (p:=⟨w.heap.size+1,0,none⟩) (by first|(simp;done)|(simp;omega));have hf1:=hb1.frozen (p:=⟨w.heap.size+1,1,none⟩) (by first|(simp;done)|(simp;omega));have hz1:=hb1.size))
    refine bodyPost_ret (v:=.tuple #[.agg #[.int .i64 ((k:Int)+1),.string s],.int .i64 0]) (by simp [results,Tryz.results76,go_sem, *]) rfl ⟨?_,?_⟩
    ·rw [HR.out];rfl
    ·have hb9:Bw w w1:=Below.step (((Below.refl _ _).alloc (Nat.le_refl _) _).alloc (by simp) _) hb1
     exact (hb9.setCell (by show w.heap.size≤w.heap.size+1;omega) _).setCell (by show w.heap.size≤w.heap.size+1;omega) _
theorem Qz (d:Int) (s:ByteArray) (hs:s.size≤maxLen) (w:World) :
 Calls Tryz.prog 87 #[.agg #[.int .i64 d,.string s]] w fun e w'=>e=.returned (.tuple #[.agg #[.int .i64 (outD (cmpE d s.data.toList) (d - 1)),.string (outS (cmpE d s.data.toList) s)],.int .i64 (cmpE d s.data.toList)])∧Bw w w':=by
 have HC:Hid (∀ w,_):=Xz d s hs
 have HQ:Hid (cmpE d s.data.toList=if sndB d s.data.toList then (if d=0 then 6 else 0) else 1):=rfl
 generalize cmpE d s.data.toList=x at *
 cases hv:sndB d s.data.toList with
 | false =>
   rw [hv] at HC HQ
   have h1:chkI false=1:=rfl
   rw [h1] at HC
   have HR:Hid (x=1):=HQ
   clear hv h1 HQ
   go_enter Tryz.func87,Tryz.ntmps87
   go_wp2_with (first
    | (go_at_call 117;refine ((HC.out) _).mono ?_;rintro e w1 ⟨rfl,hb1⟩;have hc0:=hb1.cell (p:=⟨w.heap.size,0,none⟩) (by first|(simp;done)|(simp;omega));have hc1:=hb1.cell (p:=⟨w.heap.size,1,none⟩) (by first|(simp;done)|(simp;omega));have hr0:=hb1.cell (p:=⟨w.heap.size+1,0,none⟩) (by first|(simp;done)|(simp;omega));have hr1:=hb1.cell (p:=⟨w.heap.size+1,1,none⟩) (by first|(simp;done)|(simp;omega));have hf0:=hb1.frozen (p:=⟨w.heap.size+1,0,none⟩) (by first|(simp;done)|(simp;omega));have hf1:=hb1.frozen (p:=⟨w.heap.size+1,1,none⟩) (by first|(simp;done)|(simp;omega));have hz1:=hb1.size))
   refine bodyPost_ret (v:=.tuple #[.agg #[.int .i64 0,.string ⟨#[]⟩],.int .i64 1]) (by simp [results,Tryz.results87,go_sem, *]) rfl ⟨?_,?_⟩
   ·rw [HR.out];rfl
   ·have hb9:Bw w w1:=Below.step (((Below.refl _ _).alloc (Nat.le_refl _) _).alloc (by simp) _) hb1
    exact (hb9.setCell (by show w.heap.size≤w.heap.size+1;omega) _).setCell (by show w.heap.size≤w.heap.size+1;omega) _
 | true =>
   obtain ⟨k,rfl,hk⟩:=Zcr hv
   rw [hv] at HC HQ
   have h1:chkI true=0:=rfl
   rw [h1] at HC
   clear hv h1
   by_cases h2:(k:Int)=0
   ·have HR:Hid (x=6):=by rw [Hid,HQ.out,if_pos rfl,if_pos h2]
    have h3:((k:Int) == 0)=true:=by simpa using h2
    clear HQ h2
    go_enter Tryz.func87,Tryz.ntmps87
    go_wp2_with (first
     | (go_at_call 117;refine ((HC.out) _).mono ?_;rintro e w1 ⟨rfl,hb1⟩;have hc0:=hb1.cell (p:=⟨w.heap.size,0,none⟩) (by first|(simp;done)|(simp;omega));have hc1:=hb1.cell (p:=⟨w.heap.size,1,none⟩) (by first|(simp;done)|(simp;omega));have hr0:=hb1.cell (p:=⟨w.heap.size+1,0,none⟩) (by first|(simp;done)|(simp;omega));have hr1:=hb1.cell (p:=⟨w.heap.size+1,1,none⟩) (by first|(simp;done)|(simp;omega));have hf0:=hb1.frozen (p:=⟨w.heap.size+1,0,none⟩) (by first|(simp;done)|(simp;omega));have hf1:=hb1.frozen (p:=⟨w.heap.size+1,1,none⟩) (by first|(simp;done)|(simp;omega));have hz1:=hb1.size))
    refine bodyPost_ret (v:=.tuple #[.agg #[.int .i64 0,.string ⟨#[]⟩],.int .i64 6]) (by simp [results,Tryz.results87,go_sem, *]) rfl ⟨?_,?_⟩
    ·rw [HR.out];rfl
    ·have hb9:Bw w w1:=Below.step (((Below.refl _ _).alloc (Nat.le_refl _) _).alloc (by simp) _) hb1
     exact (hb9.setCell (by show w.heap.size≤w.heap.size+1;omega) _).setCell (by show w.heap.size≤w.heap.size+1;omega) _
   ·have HR:Hid (x=0):=by rw [Hid,HQ.out,if_pos rfl,if_neg h2]
    have h3:((k:Int) == 0)=false:=by simpa using h2
    have h4:(k:Int)≠0:=h2
    clear HQ h2
    go_enter Tryz.func87,Tryz.ntmps87
    go_wp2_with (first
     | (go_at_call 117;refine ((HC.out) _).mono ?_;rintro e w1 ⟨rfl,hb1⟩;have hc0:=hb1.cell (p:=⟨w.heap.size,0,none⟩) (by first|(simp;done)|(simp;omega));have hc1:=hb1.cell (p:=⟨w.heap.size,1,none⟩) (by first|(simp;done)|(simp;omega));have hr0:=hb1.cell (p:=⟨w.heap.size+1,0,none⟩) (by first|(simp;done)|(simp;omega));have hr1:=hb1.cell (p:=⟨w.heap.size+1,1,none⟩) (by first|(simp;done)|(simp;omega));have hf0:=hb1.frozen (p:=⟨w.heap.size+1,0,none⟩) (by first|(simp;done)|(simp;omega));have hf1:=hb1.frozen (p:=⟨w.heap.size+1,1,none⟩) (by first|(simp;done)|(simp;omega));have hz1:=hb1.size))
    refine bodyPost_ret (v:=.tuple #[.agg #[.int .i64 ((k:Int) - 1),.string s],.int .i64 0]) (by simp [results,Tryz.results87,go_sem, *]) rfl ⟨?_,?_⟩
    ·rw [HR.out];rfl
    ·have hb9:Bw w w1:=Below.step (((Below.refl _ _).alloc (Nat.le_refl _) _).alloc (by simp) _) hb1
     exact (hb9.setCell (by show w.heap.size≤w.heap.size+1;omega) _).setCell (by show w.heap.size≤w.heap.size+1;omega) _
theorem Zgi (d:Int) (s:ByteArray) (hs:s.size≤maxLen) (w:World) :
 Calls Tryz.prog 71 #[.agg #[.int .i64 d,.string s]] w fun e w'=>e=.returned (.tuple #[.agg #[.int .i64 (outD (arrE d s.data.toList) (d+1)),.string (outS (arrE d s.data.toList) s)],.int .i64 (arrE d s.data.toList)])∧Bw w w':=by
 have HC:Hid (∀ w,_):=Q6 d s hs
 have HQ:Hid (arrE d s.data.toList=if sndB d s.data.toList then (if d=255 then 5 else 0) else 1):=rfl
 generalize arrE d s.data.toList=x at *
 cases hv:sndB d s.data.toList with
 | false =>
   rw [hv] at HC HQ
   have h1:chkI false=1:=rfl
   rw [h1] at HC
   have HR:Hid (x=1):=HQ
   clear hv h1 HQ
   go_enter Tryz.func71,Tryz.ntmps71
   go_wp2_with (first
    | (go_at_call 112;refine ((HC.out) _).mono ?_;rintro e w1 ⟨rfl,hb1⟩;have hc0:=hb1.cell (p:=⟨w.heap.size,0,none⟩) (by first|(simp;done)|(simp;omega));have hc1:=hb1.cell (p:=⟨w.heap.size,1,none⟩) (by first|(simp;done)|(simp;omega));have hr0:=hb1.cell (p:=⟨w.heap.size+1,0,none⟩) (by first|(simp;done)|(simp;omega));have hr1:=hb1.cell (p:=⟨w.heap.size+1,1,none⟩) (by first|(simp;done)|(simp;omega));have hf0:=hb1.frozen (p:=⟨w.heap.size+1,0,none⟩) (by first|(simp;done)|(simp;omega));have hf1:=hb1.frozen (p:=⟨w.heap.size+1,1,none⟩) (by first|(simp;done)|(simp;omega));have hz1:=hb1.size))
   refine bodyPost_ret (v:=.tuple #[.agg #[.int .i64 0,.string ⟨#[]⟩],.int .i64 1]) (by simp [results,Tryz.results71,go_sem, *]) rfl ⟨?_,?_⟩
   ·rw [HR.out];rfl
   ·have hb9:Bw w w1:=Below.step (((Below.refl _ _).alloc (Nat.le_refl _) _).alloc (by simp) _) hb1
    exact (hb9.setCell (by show w.heap.size≤w.heap.size+1;omega) _).setCell (by show w.heap.size≤w.heap.size+1;omega) _
 | true =>
   obtain ⟨k,rfl,hk⟩:=Zcr hv
   rw [hv] at HC HQ
   have h1:chkI true=0:=rfl
   rw [h1] at HC
   clear hv h1
   by_cases h2:(k:Int)=255
   ·have HR:Hid (x=5):=by rw [Hid,HQ.out,if_pos rfl,if_pos h2]
    have h3:((k:Int) == 255)=true:=by simpa using h2
    clear HQ h2
    go_enter Tryz.func71,Tryz.ntmps71
    go_wp2_with (first
     | (go_at_call 112;refine ((HC.out) _).mono ?_;rintro e w1 ⟨rfl,hb1⟩;have hc0:=hb1.cell (p:=⟨w.heap.size,0,none⟩) (by first|(simp;done)|(simp;omega));have hc1:=hb1.cell (p:=⟨w.heap.size,1,none⟩) (by first|(simp;done)|(simp;omega));have hr0:=hb1.cell (p:=⟨w.heap.size+1,0,none⟩) (by first|(simp;done)|(simp;omega));have hr1:=hb1.cell (p:=⟨w.heap.size+1,1,none⟩) (by first|(simp;done)|(simp;omega));have hf0:=hb1.frozen (p:=⟨w.heap.size+1,0,none⟩) (by first|(simp;done)|(simp;omega));have hf1:=hb1.frozen (p:=⟨w.heap.size+1,1,none⟩) (by first|(simp;done)|(simp;omega));have hz1:=hb1.size))
    refine bodyPost_ret (v:=.tuple #[.agg #[.int .i64 0,.string ⟨#[]⟩],.int .i64 5]) (by simp [results,Tryz.results71,go_sem, *]) rfl ⟨?_,?_⟩
    ·rw [HR.out];rfl
    ·have hb9:Bw w w1:=Below.step (((Below.refl _ _).alloc (Nat.le_refl _) _).alloc (by simp) _) hb1
     exact (hb9.setCell (by show w.heap.size≤w.heap.size+1;omega) _).setCell (by show w.heap.size≤w.heap.size+1;omega) _
   ·have HR:Hid (x=0):=by rw [Hid,HQ.out,if_pos rfl,if_neg h2]
    have h3:((k:Int) == 255)=false:=by simpa using h2
    have h4:(k:Int)≠255:=h2
    clear HQ h2
    go_enter Tryz.func71,Tryz.ntmps71
    go_wp2_with (first
     | (go_at_call 112;refine ((HC.out) _).mono ?_;rintro e w1 ⟨rfl,hb1⟩;have hc0:=hb1.cell (p:=⟨w.heap.size,0,none⟩) (by first|(simp;done)|(simp;omega));have hc1:=hb1.cell (p:=⟨w.heap.size,1,none⟩) (by first|(simp;done)|(simp;omega));have hr0:=hb1.cell (p:=⟨w.heap.size+1,0,none⟩) (by first|(simp;done)|(simp;omega));have hr1:=hb1.cell (p:=⟨w.heap.size+1,1,none⟩) (by first|(simp;done)|(simp;omega));have hf0:=hb1.frozen (p:=⟨w.heap.size+1,0,none⟩) (by first|(simp;done)|(simp;omega));have hf1:=hb1.frozen (p:=⟨w.heap.size+1,1,none⟩) (by first|(simp;done)|(simp;omega));have hz1:=hb1.size))
    refine bodyPost_ret (v:=.tuple #[.agg #[.int .i64 ((k:Int)+1),.string s],.int .i64 0]) (by simp [results,Tryz.results71,go_sem, *]) rfl ⟨?_,?_⟩
    ·rw [HR.out];rfl
    ·have hb9:Bw w w1:=Below.step (((Below.refl _ _).alloc (Nat.le_refl _) _).alloc (by simp) _) hb1
     exact (hb9.setCell (by show w.heap.size≤w.heap.size+1;omega) _).setCell (by show w.heap.size≤w.heap.size+1;omega) _
theorem Jz (d:Int) (s:ByteArray) (hs:s.size≤maxLen) (w:World) :
 Calls Tryz.prog 116 #[.agg #[.int .i64 d,.string s]] w fun e w'=>e=.returned (.tuple #[.agg #[.int .i64 (outD (cmpE d s.data.toList) (d - 1)),.string (outS (cmpE d s.data.toList) s)],.int .i64 (cmpE d s.data.toList)])∧Bw w w':=by
 have HC:Hid (∀ w,_):=Q6 d s hs
 have HQ:Hid (cmpE d s.data.toList=if sndB d s.data.toList then (if d=0 then 6 else 0) else 1):=rfl
 generalize cmpE d s.data.toList=x at *
 cases hv:sndB d s.data.toList with
 | false =>
   rw [hv] at HC HQ
   have h1:chkI false=1:=rfl
   rw [h1] at HC
   have HR:Hid (x=1):=HQ
   clear hv h1 HQ
   go_enter Tryz.func116,Tryz.ntmps116
   go_wp2_with (first
    | (go_at_call 112;refine ((HC.out) _).mono ?_;rintro e w1 ⟨rfl,hb1⟩;have hc0:=hb1.cell (p:=⟨w.heap.size,0,none⟩) (by first|(simp;done)|(simp;omega));have hc1:=hb1.cell (p:=⟨w.heap.size,1,none⟩) (by first|(simp;done)|(simp;omega));have hr0:=hb1.cell (p:=⟨w.heap.size+1,0,none⟩) (by first|(simp;done)|(simp;omega));have hr1:=hb1.cell (p:=⟨w.heap.size+1,1,none⟩) (by first|(simp;done)|(simp;omega));have hf0:=hb1.frozen (p:=⟨w.heap.size+1,0,none⟩) (by first|(simp;done)|(simp;omega));have hf1:=hb1.frozen (p:=⟨w.heap.size+1,1,none⟩) (by first|(simp;done)|(simp;omega));have hz1:=hb1.size))
   refine bodyPost_ret (v:=.tuple #[.agg #[.int .i64 0,.string ⟨#[]⟩],.int .i64 1]) (by simp [results,Tryz.results116,go_sem, *]) rfl ⟨?_,?_⟩
   ·rw [HR.out];rfl
   ·have hb9:Bw w w1:=Below.step (((Below.refl _ _).alloc (Nat.le_refl _) _).alloc (by simp) _) hb1
    exact (hb9.setCell (by show w.heap.size≤w.heap.size+1;omega) _).setCell (by show w.heap.size≤w.heap.size+1;omega) _
 | true =>
   obtain ⟨k,rfl,hk⟩:=Zcr hv
   rw [hv] at HC HQ
   have h1:chkI true=0:=rfl
   rw [h1] at HC
   clear hv h1
   by_cases h2:(k:Int)=0
   ·have HR:Hid (x=6):=by rw [Hid,HQ.out,if_pos rfl,if_pos h2]
    have h3:((k:Int) == 0)=true:=by simpa using h2
    clear HQ h2
    go_enter Tryz.func116,Tryz.ntmps116
    go_wp2_with (first
     | (go_at_call 112;refine ((HC.out) _).mono ?_;rintro e w1 ⟨rfl,hb1⟩;have hc0:=hb1.cell (p:=⟨w.heap.size,0,none⟩) (by first|(simp;done)|(simp;omega));have hc1:=hb1.cell (p:=⟨w.heap.size,1,none⟩) (by first|(simp;done)|(simp;omega));have hr0:=hb1.cell (p:=⟨w.heap.size+1,0,none⟩) (by first|(simp;done)|(simp;omega));have hr1:=hb1.cell (p:=⟨w.heap.size+1,1,none⟩) (by first|(simp;done)|(simp;omega));have hf0:=hb1.frozen (p:=⟨w.heap.size+1,0,none⟩) (by first|(simp;done)|(simp;omega));have hf1:=hb1.frozen (p:=⟨w.heap.size+1,1,none⟩) (by first|(simp;done)|(simp;omega));have hz1:=hb1.size))
    refine bodyPost_ret (v:=.tuple #[.agg #[.int .i64 0,.string ⟨#[]⟩],.int .i64 6]) (by simp [results,Tryz.results116,go_sem, *]) rfl ⟨?_,?_⟩
    ·rw [HR.out];rfl
    ·have hb9:Bw w w1:=Below.step (((Below.refl _ _).alloc (Nat.le_refl _) _).alloc (by simp) _) hb1
     exact (hb9.setCell (by show w.heap.size≤w.heap.size+1;omega) _).setCell (by show w.heap.size≤w.heap.size+1;omega) _
   ·have HR:Hid (x=0):=by rw [Hid,HQ.out,if_pos rfl,if_neg h2]
    have h3:((k:Int) == 0)=false:=by simpa using h2
    have h4:(k:Int)≠0:=h2
    clear HQ h2
    go_enter Tryz.func116,Tryz.ntmps116
    go_wp2_with (first
     | (go_at_call 112;refine ((HC.out) _).mono ?_;rintro e w1 ⟨rfl,hb1⟩;have hc0:=hb1.cell (p:=⟨w.heap.size,0,none⟩) (by first|(simp;done)|(simp;omega));have hc1:=hb1.cell (p:=⟨w.heap.size,1,none⟩) (by first|(simp;done)|(simp;omega));have hr0:=hb1.cell (p:=⟨w.heap.size+1,0,none⟩) (by first|(simp;done)|(simp;omega));have hr1:=hb1.cell (p:=⟨w.heap.size+1,1,none⟩) (by first|(simp;done)|(simp;omega));have hf0:=hb1.frozen (p:=⟨w.heap.size+1,0,none⟩) (by first|(simp;done)|(simp;omega));have hf1:=hb1.frozen (p:=⟨w.heap.size+1,1,none⟩) (by first|(simp;done)|(simp;omega));have hz1:=hb1.size))
    refine bodyPost_ret (v:=.tuple #[.agg #[.int .i64 ((k:Int) - 1),.string s],.int .i64 0]) (by simp [results,Tryz.results116,go_sem, *]) rfl ⟨?_,?_⟩
    ·rw [HR.out];rfl
    ·have hb9:Bw w w1:=Below.step (((Below.refl _ _).alloc (Nat.le_refl _) _).alloc (by simp) _) hb1
     exact (hb9.setCell (by show w.heap.size≤w.heap.size+1;omega) _).setCell (by show w.heap.size≤w.heap.size+1;omega) _
end Go.Proofs.YtlnojhhddinjkaaGreat
