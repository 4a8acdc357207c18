import Derived.Test.YtkoogmegdfpopaaGreatOwnParse
import Derived.Test.YtkoogmegdfpopaaGreatZkD
set_option maxHeartbeats 4000000
set_option maxRecDepth 100000
namespace Go.Proofs.YtkoogmegdfpopaaGreat
open Go.RowKit
def Xi (t:Int×ByteArray):Bool:=decide (255<t.1)
theorem Zch (v:Value) (ts:List (Int×ByteArray)) (W:World) (h:IsTys W v ts) :
 Calls Tryz.prog 129 #[v,.func (.func 113) #[] #[]] W fun e w'=>(∃ i:Int,e=.returned (.int .i64 i)∧decide (0≤i)=ts.any Xi)∧Bw W w':=by
 obtain ⟨ao,cap,rfl,h1,h2,h3⟩:=h
 unfold maxLen at h2
 have H3:Hid _:=h3
 clear h3
 have HD:Hid (∀ (d:Int) (n:ByteArray) (w:World),_):=Jl
 go_enter Tryz.func129,Tryz.ntmps129
 go_wp2
 go_loopw [8] (fun iv wr=>∃ i:Nat,iv=.int .i64 i∧i≤ts.length∧Hid (Bw W wr)∧Hid ((ts.drop i).any Xi=ts.any Xi)) (fun iv _=>ts.length - (intOf iv).toNat)
 case atStart=>exact ⟨0,rfl,Nat.zero_le _,Below.refl _ _,rfl⟩
 case round =>
  obtain ⟨i,rfl,hi,hb,ha⟩:=hrel
  by_cases hlt:i<ts.length
  ·obtain ⟨bk,o,hao,hbk,hc⟩:=H3.out (by intro e;rw [e] at hlt;simp at hlt)
   obtain ⟨⟨d,n⟩,ht⟩:∃ t,ts[i]?=some t:=⟨_,List.getElem?_eq_getElem hlt⟩
   subst hao
   obtain ⟨c0,c1⟩:=hc i _ ht
   have k0:wr.cell? ⟨bk,o+i * 2,none⟩=some (.int .i64 d):=(hb.out.cell (p:=⟨bk,o+i * 2,none⟩) hbk).trans c0
   have k1:wr.cell? ⟨bk,o+i * 2+1,none⟩=some (.string n):=(hb.out.cell (p:=⟨bk,o+i * 2+1,none⟩) hbk).trans c1
   have hdr:ts.drop i=(d,n)::ts.drop (i+1):=by
    rw [List.drop_eq_getElem_cons hlt]
    rw [List.getElem?_eq_getElem hlt] at ht
    rw [Option.some.inj ht]
   have HI:Hid (∀ w,_):=HD.out d n
   by_cases hd:255<d
   ·have HA:Hid (ts.any Xi=true):=by rw [Hid,← ha.out,hdr];simp [Xi,hd]
    have hdd:decide (255<d)=true:=by simpa using hd
    rw [hdd] at HI
    clear hc c0 c1 H3 HD hdr ht ha hd hdd
    go_wp2_with (go_at_call 113;refine (HI.out _).mono ?_;rintro e w1 ⟨rfl,hb1⟩)
    go_ret
    exact ⟨⟨i,rfl,by rw [HA.out];simp⟩,Below.step hb.out hb1⟩
   ·have HA:Hid ((ts.drop (i+1)).any Xi=ts.any Xi):=by rw [Hid,← ha.out,hdr];simp [Xi,hd]
    have hdd:decide (255<d)=false:=by simpa using hd
    rw [hdd] at HI
    clear hc c0 c1 H3 HD hdr ht ha hd hdd
    go_wp2_with (go_at_call 113;refine (HI.out _).mono ?_;rintro e w1 ⟨rfl,hb1⟩;have hb2:Hid (Bw W w1):=Below.step hb.out hb1;clear hb1)
    go_roundw
    case rel=>exact ⟨i+1,by go_num,by omega,hb2,HA⟩
    case measure=>simp [intOf];omega
  ·have HA:Hid (ts.any Xi=false):=by rw [Hid,← ha.out,List.drop_of_length_le (by omega)];rfl
   clear H3 HD ha
   go_wp2
   go_ret
   exact ⟨⟨-1,rfl,by rw [HA.out];rfl⟩,hb.out⟩
theorem Zea (v:Value) (ts:List (Int×ByteArray)) (W:World) (h:IsTys W v ts) :
 Calls Tryz.prog 114 #[v,.func (.func 113) #[] #[]] W fun e w'=>e=.returned (.bool (ts.any Xi))∧Bw W w':=by
 have HI:Hid (Calls Tryz.prog 129 #[v,.func (.func 113) #[] #[]] W fun e w'=>(∃ i:Int,e=.returned (.int .i64 i)∧Hid (decide (0≤i)=ts.any Xi))∧Bw W w'):=Zch v ts W h
 obtain ⟨ao,cap,rfl,_⟩:=h
 go_enter Tryz.func114,Tryz.ntmps114
 go_wp2_with (go_at_call 129;refine (HI.out).mono ?_;rintro e w1 ⟨⟨i,rfl,hi⟩,hb1⟩)
 go_ret
 exact ⟨Za hi.out,hb1⟩
theorem Yf (l:List UInt8):J0 l=match descOf l with
 | some (d,[])=>some d
 | _=>none:=by
 unfold J0 descOf
 split
 ·rename_i r
  have ha:Z7 (40::r)=Zy (r.length+1) r:=rfl
  rw [ha]
  cases e:Zy (r.length+1) r with
  | none=>rfl
  | some p =>
    obtain ⟨ts,q⟩:=p
    simp only
    by_cases h86:q.head?=some 86
    ·rw [if_pos h86]
     cases q with
     | nil=>simp at h86
     | cons c q =>
       simp at h86
       subst h86
       cases q with
       | nil=>rfl
       | cons c2 q2 =>
         have hr:Zx (86::c2::q2)=none:=by simp [Zx,Zr]
         simp [Zeh,hr]
    ·rw [if_neg h86]
     have hne:q≠[86]:=fun z=>by rw [z] at h86;exact h86 rfl
     unfold Zeh
     rw [if_neg hne]
     cases hr:Zx q with
     | none=>rfl
     | some p =>
       obtain ⟨t,r2⟩:=p
       cases r2 <;> rfl
 ·rename_i hx
  have ha:Z7 l=none:=by
   unfold Z7
   split
   ·rename_i r;exact absurd rfl (hx r)
   ·rfl
  rw [ha]
def Y0 (d:List (Nat×List UInt8)×Option (Nat×List UInt8)):Bool:=decide (20<d.1.length)||decide (255<(retT d.2).1)||(d.1.map natT).any Xi
def pdE (l:List UInt8):Int:=if 2000<l.length then 5 else match J0 l with
 | none=>4
 | some d=>if Y0 d then 5 else 0
def pdD (l:List UInt8):List (Nat×List UInt8)×Option (Nat×List UInt8):=if pdE l=0 then (J0 l).getD ([],some (0,[])) else ([],some (0,[]))
def DOut (l:List UInt8) (w:World) (e:Ending) (w':World):Prop :=
 ∃ v,e=.returned (.tuple #[.agg #[v,.bool (X6 (pdD l).2),.int .i64 (retT (pdD l).2).1,.string ⟨(retT (pdD l).2).2.toArray⟩],.int .i64 (pdE l)]) ∧
   w'.ownsRow w.heap.size 122 2 v (pdD l).1.length (Ye ((pdD l).1.map natT))∧Bw w w'
theorem Zs {l:List UInt8} {w w':World} {x:Int} (h:pdE l=x) (hx:x≠0) (hb:Bw w w'):DOut l w (.returned (.tuple #[.agg #[.slice none 0 0,.bool false,.int .i64 0,.string ⟨#[]⟩],.int .i64 x])) w':=by
 have e:pdD l=([],some (0,[])):=by rw [pdD,if_neg (by rw [h];exact hx)]
 unfold DOut
 rw [e,h]
 exact ⟨_,rfl,World.ownsRow_nil _ _ _ _,hb⟩
theorem Ze2 {l:List UInt8} {w w':World} {ts:List (Nat×List UInt8)} {x:Option (Nat×List UInt8)} {v:Value} (h:J0 l=some (ts,x)) (hl:l.length≤2000) (hg:Y0 (ts,x)=false)
 (ho:w'.ownsRow w.heap.size 122 2 v ts.length (Ye (ts.map natT))) (hb:Bw w w'):DOut l w (.returned (.tuple #[.agg #[v,.bool (X6 x),.int .i64 (retT x).1,.string ⟨(retT x).2.toArray⟩],.int .i64 0])) w':=by
 have h0:pdE l=0:=by rw [pdE,if_neg (by omega),h];simp [hg]
 have e:pdD l=(ts,x):=by rw [pdD,if_pos h0,h];rfl
 unfold DOut
 rw [e,h0]
 exact ⟨v,rfl,ho,hb⟩
structure Pd (w:World) (s:ByteArray) (q:Nat) (v:Value) (ts:List (Nat×List UInt8)) (w2:World):Prop where
 r:w2.heap[w.heap.size]?=some (.cells Qh 124 (0,0))
 cur:Cur w2 (w.heap.size+1) s q
 own:w2.ownsRow (w.heap.size+1) 122 2 v ts.length (Ye (ts.map natT))
 bel:Bw w w2
theorem Pd.keep {w w2 w3:World} {s:ByteArray} {q:Nat} {v:Value} {ts:List (Nat×List UInt8)} (h:Pd w s q v ts w2) (hb:Bw w2 w3):Pd w s q v ts w3 :=
 ⟨by rw [hb.block _ (Array.getElem?_eq_some_iff.1 h.r).1];exact h.r,h.cur.keep hb,own_below h.own hb (Nat.le_refl _),Below.step h.bel hb⟩
theorem Pd.cells {w wr:World} {s:ByteArray} {q:Nat} {v:Value} {ts:List (Nat×List UInt8)} (h:Pd w s q v ts wr) :
 wr.cell? ⟨w.heap.size,0,none⟩=some (.slice none 0 0)∧wr.cell? ⟨w.heap.size,1,none⟩=some (.bool false)∧wr.cell? ⟨w.heap.size,2,none⟩=some (.int .i64 0)∧wr.cell? ⟨w.heap.size,3,none⟩=some (.string ⟨#[]⟩) ∧
 wr.frozen? ⟨w.heap.size,0,none⟩=false∧wr.frozen? ⟨w.heap.size,1,none⟩=false∧wr.frozen? ⟨w.heap.size,2,none⟩=false∧wr.frozen? ⟨w.heap.size,3,none⟩=false∧w.heap.size+1<wr.heap.size∧w.heap.size<wr.heap.size:=by
 refine ⟨?_,?_,?_,?_,?_,?_,?_,?_,h.cur.cells.2.2.2,Nat.lt_of_succ_lt h.cur.cells.2.2.2⟩
 ·rw [cell_of_row _ w.heap.size 0 _ 124 (0,0) h.r];rfl
 ·rw [cell_of_row _ w.heap.size 1 _ 124 (0,0) h.r];rfl
 ·rw [cell_of_row _ w.heap.size 2 _ 124 (0,0) h.r];rfl
 ·rw [cell_of_row _ w.heap.size 3 _ 124 (0,0) h.r];rfl
 all_goals simp [World.frozen?,h.r]
theorem Pd.done {w wr:World} {s:ByteArray} {q:Nat} {v:Value} {ts:List (Nat×List UInt8)} (h:Pd w s q v ts wr) (u0 u1 u2 u3:Value) :
 (set4 wr w.heap.size u0 u1 u2 u3).ownsRow w.heap.size 122 2 v ts.length (Ye (ts.map natT))∧Bw w (set4 wr w.heap.size u0 u1 u2 u3):=by
 have hg:=Xu wr w.heap.size u0 u1 u2 u3
 exact ⟨J7 (h.own.kept hg (.inr (fun e=>by have:=(h.own.lt _ e).1;omega))) (Nat.le_succ _),h.bel.grown hg h.bel.size (fun k e=>by simp at e;omega)⟩
theorem Pd.first (w:World) (s:ByteArray):Pd w s 0 (.slice none 0 0) [] ((w.alloc (.cells Qh 124)).alloc (.cells #[.string s,.int .i64 0] 156)):=by
 refine ⟨?_,?_,World.ownsRow_nil _ _ _ _,((Below.refl _ _).alloc (Nat.le_refl _) _).alloc (by simp) _⟩
 ·rw [Below.heap_alloc _ _ _ (by simp)];exact heap_alloc_new w _
 ·have:=heap_alloc_new (w.alloc (.cells Qh 124)) (.cells #[.string s,.int .i64 0] 156)
  unfold Cur
  simpa using this
theorem Pd.grown {w w2 w3:World} {s:ByteArray} {q q':Nat} {v v':Value} {ts ts':List (Nat×List UInt8)} (h:Pd w s q v ts w2) (hg:w2.grownBy w3 (some (w.heap.size+1))) (hc:Cur w3 (w.heap.size+1) s q')
 (ho:w3.ownsRow (w.heap.size+1) 122 2 v' ts'.length (Ye (ts'.map natT))):Pd w s q' v' ts' w3 :=
 ⟨by rw [hg.block _ (Array.getElem?_eq_some_iff.1 h.r).1 (by simp)];exact h.r,hc,ho,h.bel.grown hg h.bel.size (fun k e=>by simp at e;omega)⟩
theorem Qz (w:World) (x0 x1 x2 x3:Value) (t:TypeId):(w.alloc (.cells #[x0,x1,x2,x3] t)).cell? ⟨w.heap.size,0,none⟩=some x0∧(w.alloc (.cells #[x0,x1,x2,x3] t)).cell? ⟨w.heap.size,1,none⟩=some x1 ∧
 (w.alloc (.cells #[x0,x1,x2,x3] t)).cell? ⟨w.heap.size,2,none⟩=some x2∧(w.alloc (.cells #[x0,x1,x2,x3] t)).cell? ⟨w.heap.size,3,none⟩=some x3:=by
 refine ⟨?_,?_,?_,?_⟩
 ·rw [cell_of_row _ w.heap.size 0 _ t (0,0) (heap_alloc_new w _)];rfl
 ·rw [cell_of_row _ w.heap.size 1 _ t (0,0) (heap_alloc_new w _)];rfl
 ·rw [cell_of_row _ w.heap.size 2 _ t (0,0) (heap_alloc_new w _)];rfl
 ·rw [cell_of_row _ w.heap.size 3 _ t (0,0) (heap_alloc_new w _)];rfl
theorem Yb {w w':World} {b:Nat} {x0 x1 x2 x3:Value} (h:w.cell? ⟨b,0,none⟩=some x0∧w.cell? ⟨b,1,none⟩=some x1∧w.cell? ⟨b,2,none⟩=some x2∧w.cell? ⟨b,3,none⟩=some x3) (hlt:b<w.heap.size) (hb:Bw w w') :
 w'.cell? ⟨b,0,none⟩=some x0∧w'.cell? ⟨b,1,none⟩=some x1∧w'.cell? ⟨b,2,none⟩=some x2∧w'.cell? ⟨b,3,none⟩=some x3 :=
 ⟨(hb.cell (p:=⟨b,0,none⟩) hlt).trans h.1,(hb.cell (p:=⟨b,1,none⟩) hlt).trans h.2.1,(hb.cell (p:=⟨b,2,none⟩) hlt).trans h.2.2.1,(hb.cell (p:=⟨b,3,none⟩) hlt).trans h.2.2.2⟩
theorem Xe (s:ByteArray) (hs:s.size≤maxLen) (w:World) :
 Calls Tryz.prog 92 #[.string s] w fun e w'=>DOut s.data.toList w e w':=by
 have hlen:s.data.toList.length=s.size:=by simp
 unfold maxLen at hs
 by_cases hbig:2000<s.size
 ·have HE:Hid (pdE s.data.toList=5):=by rw [Hid,pdE,if_pos (by rw [hlen];exact hbig)]
  clear hlen
  go_enter Tryz.func92,Tryz.ntmps92
  go_wp2
  exact bodyPost_ret (v:=.tuple #[.agg #[.slice none 0 0,.bool false,.int .i64 0,.string ⟨#[]⟩],.int .i64 5]) (by simp [results,Tryz.results92,go_sem, *]) rfl (Zs HE.out (by decide) ((Below.refl _ _).alloc (Nat.le_refl _) _))
 ·have HR:=Zc8 (w.heap.size+1) s 0 (Nat.zero_le _) (by omega) _ (Pd.first w s).cur
  have hl2:s.data.toList.length≤2000:=by rw [hlen];omega
  have hE:pdE s.data.toList=match J0 s.data.toList with
   | none=>4
   | some d=>if Y0 d then 5 else 0:=by rw [pdE,if_neg (by rw [hlen];exact hbig)]
  have HN:Hid (∀ w,_):=Qt s
  have HA:Hid (∀ (q:Nat) (v:Value) (ts:List (Nat×List UInt8)) (w3:World),Hid (Pd w s q v ts w3)→Calls Tryz.prog 112 #[.pointer (some ⟨w.heap.size+1,0,none⟩)] w3 fun e w'=>e=.returned (.bool (decide (q=s.size)))∧Bw w3 w') :=
   fun q v ts w3 h=>Zed (w.heap.size+1) s q w3 h.out.cur
  have hrd:=Yf s.data.toList
  unfold X5 at HR
  rw [List.drop_zero] at HR
  have hws:((w.alloc (.cells Qh 124)).alloc (.cells #[.string s,.int .i64 0] 156)).heap.size=w.heap.size+2:=by simp
  cases hr:descOf s.data.toList with
  | none =>
    rw [hr] at hrd HR
    have HE:Hid (pdE s.data.toList=4):=by rw [Hid,hE,hrd]
    have HQ:Hid (Calls Tryz.prog 111 #[.pointer (some ⟨w.heap.size+1,0,none⟩)] ((w.alloc (.cells #[.slice none 0 0,.bool false,.int .i64 0,.string ⟨#[]⟩] 124)).alloc (.cells #[.string s,.int .i64 0] 156)) fun e w'=>e=.returned (.tuple #[.agg #[.slice none 0 0,.bool false,.int .i64 0,.string ⟨#[]⟩],.bool false])∧∃ q,Hid (Pd w s q (.slice none 0 0) [] w')) :=
     HR.mono fun e w' ⟨⟨he,q,_,hc⟩,hg⟩=>⟨he,q,(Pd.first w s).grown hg hc (World.ownsRow_nil _ _ _ _)⟩
    clear hE HR hr hlen hrd hws hl2 HA
    go_enter Tryz.func92,Tryz.ntmps92
    go_wp2_with (first
     | (go_at_call 110;refine ((HN.out) _).mono ?_;rintro e w1 ⟨rfl,rfl⟩)
     | (go_at_call 111;refine (HQ.out).mono ?_;rintro e w2 ⟨rfl,q,hP⟩;obtain ⟨c0,c1,c2,c3,f0,f1,f2,f3,hz,hz'⟩:=hP.out.cells))
    exact bodyPost_ret (v:=.tuple #[.agg #[.slice none 0 0,.bool false,.int .i64 0,.string ⟨#[]⟩],.int .i64 4]) (by simp [results,Tryz.results92,go_sem, *]) rfl (Zs HE.out (by decide) ((hP.out.done _ _ _ _).2.alloc ((hP.out.done _ _ _ _).2.size) _))
  | some p =>
    obtain ⟨⟨ts,x⟩,r⟩:=p
    rw [hr] at hrd HR
    have HQ:Hid (Calls Tryz.prog 111 #[.pointer (some ⟨w.heap.size+1,0,none⟩)] ((w.alloc (.cells #[.slice none 0 0,.bool false,.int .i64 0,.string ⟨#[]⟩] 124)).alloc (.cells #[.string s,.int .i64 0] 156)) fun e w'=>∃ v,e=.returned (.tuple #[.agg #[v,.bool (X6 x),.int .i64 (retT x).1,.string ⟨(retT x).2.toArray⟩],.bool true])∧Hid (Pd w s (s.size - r.length) v ts w')) :=
     HR.mono fun e w' ⟨⟨v,he,ho,hc⟩,hg⟩=>⟨v,he,(Pd.first w s).grown hg hc (J7 ho (by rw [hws];omega))⟩
    have hrl:r.length≤s.size→r≠[]→decide (s.size - r.length=s.size)=false:=fun h1 h2=>by
     have:0<r.length:=List.length_pos_iff.2 h2
     simp;omega
    cases r with
    | cons c r2 =>
      have HE:Hid (pdE s.data.toList=4):=by rw [Hid,hE,hrd]
      obtain ⟨m,hm⟩:∃ m:Nat,s.size - (c::r2).length=m:=⟨_,rfl⟩
      have hne:decide (m=s.size)=false:=by
       rw [← hm]
       by_cases h0:s.size=0
       ·have:s.data.toList=[]:=List.length_eq_zero_iff.1 (by rw [hlen];exact h0)
        rw [this] at hr
        simp [descOf,Z7] at hr
       ·simp;omega
      rw [hm] at HQ
      have HA':Hid (∀ v w3,Hid (Pd w s m v ts w3)→Calls Tryz.prog 112 #[.pointer (some ⟨w.heap.size+1,0,none⟩)] w3 fun e w'=>e=.returned (.bool false)∧Bw w3 w'):=fun v w3 h=>by have:=HA.out m v ts w3 h;rw [hne] at this;exact this
      clear hE HR hr hlen hrd hws hl2 HA hm hne hrl
      generalize (retT x).1=rd at *
      generalize (⟨(retT x).2.toArray⟩:ByteArray)=rn at *
      generalize X6 x=vb at *
      go_enter Tryz.func92,Tryz.ntmps92
      go_wp2_with (first
       | (go_at_call 110;refine ((HN.out) _).mono ?_;rintro e w1 ⟨rfl,rfl⟩)
       | (go_at_call 111;refine (HQ.out).mono ?_;rintro e w2 ⟨v,rfl,hP0⟩;obtain ⟨ao,cap,rfl⟩:=Zd hP0.out.own;have hP:Hid (Pd w s m (.slice ao ts.length cap) ts (w2.alloc (.cells #[.slice ao ts.length cap,.bool vb,.int .i64 rd,.string rn] 124))):=hP0.out.keep ((Below.refl _ _).alloc (Nat.le_refl _) _);have hz2:=hP0.out.cells.2.2.2.2.2.2.2.2.2)
       | (go_at_call 112;refine (HA'.out _ _ hP).mono ?_;rintro e w3 ⟨rfl,hb3⟩;have hP3:Hid (Pd w s m (.slice ao ts.length cap) ts w3):=hP.out.keep hb3;have hs3:w2.heap.size<w3.heap.size:=sqS hb3;obtain ⟨t0,t1,t2,t3⟩:=Yb (Qz w2 _ _ _ _ 124) (by simp) hb3;clear hb3;obtain ⟨d0,d1,d2,d3,g0,g1,g2,g3,hy,hy'⟩:=hP3.out.cells))
      exact bodyPost_ret (v:=.tuple #[.agg #[.slice none 0 0,.bool false,.int .i64 0,.string ⟨#[]⟩],.int .i64 4]) (by simp [results,Tryz.results92,go_sem, *]) rfl (Zs HE.out (by decide) (hP3.out.done _ _ _ _).2)
    | nil =>
      have h0:s.size - ([]:List UInt8).length=s.size:=rfl
      rw [h0] at HQ
      have HA':Hid (∀ v w3,Hid (Pd w s s.size v ts w3)→Calls Tryz.prog 112 #[.pointer (some ⟨w.heap.size+1,0,none⟩)] w3 fun e w'=>e=.returned (.bool true)∧Bw w3 w'):=fun v w3 h=>by have:=HA.out s.size v ts w3 h;simp only [decide_true] at this;exact this
      have HD:Hid (∀ w,_):=Jl (retT x).1 ⟨(retT x).2.toArray⟩
      have HK:Hid (∀ (v:Value) (w4:World),Hid (Pd w s s.size v ts w4)→Calls Tryz.prog 114 #[v,.func (.func 113) #[] #[]] w4 fun e w'=>e=.returned (.bool ((ts.map natT).any Xi))∧Bw w4 w') :=
       fun v w4 h=>Zea v (ts.map natT) w4 (own_tys (by rw [List.length_map];exact h.out.own))
      have hLE:Y0 (ts,x)=true→pdE s.data.toList=5:=fun h=>by rw [hE,hrd];simp [h]
      have hlg:Y0 (ts,x)=(decide (20<ts.length)||decide (255<(retT x).1)||(ts.map natT).any Xi):=rfl
      by_cases h20:20<ts.length
      ·have HE:Hid (pdE s.data.toList=5):=hLE (by rw [hlg];simp [h20])
       have hdl:decide (20<(ts.length:Int))=true:=by simp;omega
       clear hE HR hr hlen hrd hws hl2 HA hrl h0 hLE hlg HD HK
       generalize (retT x).1=rd at *
       generalize (⟨(retT x).2.toArray⟩:ByteArray)=rn at *
       generalize X6 x=vb at *
       go_enter Tryz.func92,Tryz.ntmps92
       go_wp2_with (first
        | (go_at_call 110;refine ((HN.out) _).mono ?_;rintro e w1 ⟨rfl,rfl⟩)
        | (go_at_call 111;refine (HQ.out).mono ?_;rintro e w2 ⟨v,rfl,hP0⟩;obtain ⟨ao,cap,rfl⟩:=Zd hP0.out.own;have hP:Hid (Pd w s s.size (.slice ao ts.length cap) ts (w2.alloc (.cells #[.slice ao ts.length cap,.bool vb,.int .i64 rd,.string rn] 124))):=hP0.out.keep ((Below.refl _ _).alloc (Nat.le_refl _) _);have hz2:=hP0.out.cells.2.2.2.2.2.2.2.2.2)
        | (go_at_call 112;refine (HA'.out _ _ hP).mono ?_;rintro e w3 ⟨rfl,hb3⟩;have hP3:Hid (Pd w s s.size (.slice ao ts.length cap) ts w3):=hP.out.keep hb3;have hs3:w2.heap.size<w3.heap.size:=sqS hb3;obtain ⟨t0,t1,t2,t3⟩:=Yb (Qz w2 _ _ _ _ 124) (by simp) hb3;clear hb3;obtain ⟨d0,d1,d2,d3,g0,g1,g2,g3,hy,hy'⟩:=hP3.out.cells))
       exact bodyPost_ret (v:=.tuple #[.agg #[.slice none 0 0,.bool false,.int .i64 0,.string ⟨#[]⟩],.int .i64 5]) (by simp [results,Tryz.results92,go_sem, *]) rfl (Zs HE.out (by decide) (hP3.out.done _ _ _ _).2)
      ·have hdl:decide (20<(ts.length:Int))=false:=by simp;omega
       by_cases hdp:255<(retT x).1
       ·have HE:Hid (pdE s.data.toList=5):=hLE (by rw [hlg];simp [hdp])
        have hdd:decide ((255:Int)<(((retT x).1:Nat):Int))=true:=by simp;omega
        rw [hdd] at HD
        clear hE HR hr hlen hrd hws hl2 HA hrl h0 hLE hlg HK hdd hdp
        generalize (retT x).1=rd at *
        generalize (⟨(retT x).2.toArray⟩:ByteArray)=rn at *
        generalize X6 x=vb at *
        go_enter Tryz.func92,Tryz.ntmps92
        go_wp2_with (first
         | (go_at_call 110;refine ((HN.out) _).mono ?_;rintro e w1 ⟨rfl,rfl⟩)
         | (go_at_call 111;refine (HQ.out).mono ?_;rintro e w2 ⟨v,rfl,hP0⟩;obtain ⟨ao,cap,rfl⟩:=Zd hP0.out.own;have hP:Hid (Pd w s s.size (.slice ao ts.length cap) ts (w2.alloc (.cells #[.slice ao ts.length cap,.bool vb,.int .i64 rd,.string rn] 124))):=hP0.out.keep ((Below.refl _ _).alloc (Nat.le_refl _) _);have hz2:=hP0.out.cells.2.2.2.2.2.2.2.2.2)
         | (go_at_call 112;refine (HA'.out _ _ hP).mono ?_;rintro e w3 ⟨rfl,hb3⟩;have hP3:Hid (Pd w s s.size (.slice ao ts.length cap) ts w3):=hP.out.keep hb3;have hs3:w2.heap.size<w3.heap.size:=sqS hb3;obtain ⟨t0,t1,t2,t3⟩:=Yb (Qz w2 _ _ _ _ 124) (by simp) hb3;clear hb3;obtain ⟨d0,d1,d2,d3,g0,g1,g2,g3,hy,hy'⟩:=hP3.out.cells)
         | (go_at_call 113;refine ((HD.out) _).mono ?_;rintro e w4 ⟨rfl,hb4⟩;have hP4:Hid (Pd w s s.size (.slice ao ts.length cap) ts w4):=hP3.out.keep hb4;have hs4:w2.heap.size<w4.heap.size:=(by have:=hb4.size;omega);obtain ⟨y0,y1,y2,y3⟩:=Yb ⟨t0,t1,t2,t3⟩ hs3 hb4;clear hb4;obtain ⟨j0,j1,j2,j3,k0,k1,k2,k3,hx,hx'⟩:=hP4.out.cells))
        exact bodyPost_ret (v:=.tuple #[.agg #[.slice none 0 0,.bool false,.int .i64 0,.string ⟨#[]⟩],.int .i64 5]) (by simp [results,Tryz.results92,go_sem, *]) rfl (Zs HE.out (by decide) (hP4.out.done _ _ _ _).2)
       ·have hdd:decide ((255:Int)<(((retT x).1:Nat):Int))=false:=by simp;omega
        rw [hdd] at HD
        cases hany:(ts.map natT).any Xi with
        | true =>
          have HE:Hid (pdE s.data.toList=5):=hLE (by rw [hlg,hany];simp)
          rw [hany] at HK
          clear hE HR hr hlen hrd hws hl2 HA hrl h0 hLE hlg hdd hdp hany
          generalize (retT x).1=rd at *
          generalize (⟨(retT x).2.toArray⟩:ByteArray)=rn at *
          generalize X6 x=vb at *
          go_enter Tryz.func92,Tryz.ntmps92
          go_wp2_with (first
           | (go_at_call 110;refine ((HN.out) _).mono ?_;rintro e w1 ⟨rfl,rfl⟩)
           | (go_at_call 111;refine (HQ.out).mono ?_;rintro e w2 ⟨v,rfl,hP0⟩;obtain ⟨ao,cap,rfl⟩:=Zd hP0.out.own;have hP:Hid (Pd w s s.size (.slice ao ts.length cap) ts (w2.alloc (.cells #[.slice ao ts.length cap,.bool vb,.int .i64 rd,.string rn] 124))):=hP0.out.keep ((Below.refl _ _).alloc (Nat.le_refl _) _);have hz2:=hP0.out.cells.2.2.2.2.2.2.2.2.2)
           | (go_at_call 112;refine (HA'.out _ _ hP).mono ?_;rintro e w3 ⟨rfl,hb3⟩;have hP3:Hid (Pd w s s.size (.slice ao ts.length cap) ts w3):=hP.out.keep hb3;have hs3:w2.heap.size<w3.heap.size:=sqS hb3;obtain ⟨t0,t1,t2,t3⟩:=Yb (Qz w2 _ _ _ _ 124) (by simp) hb3;clear hb3;obtain ⟨d0,d1,d2,d3,g0,g1,g2,g3,hy,hy'⟩:=hP3.out.cells)
           | (go_at_call 113;refine ((HD.out) _).mono ?_;rintro e w4 ⟨rfl,hb4⟩;have hP4:Hid (Pd w s s.size (.slice ao ts.length cap) ts w4):=hP3.out.keep hb4;have hs4:w2.heap.size<w4.heap.size:=(by have:=hb4.size;omega);obtain ⟨y0,y1,y2,y3⟩:=Yb ⟨t0,t1,t2,t3⟩ hs3 hb4;clear hb4;obtain ⟨j0,j1,j2,j3,k0,k1,k2,k3,hx,hx'⟩:=hP4.out.cells)
           | (go_at_call 114;refine ((HK.out) _ _ hP4).mono ?_;rintro e w5 ⟨rfl,hb5⟩;have hP5:Hid (Pd w s s.size (.slice ao ts.length cap) ts w5):=hP4.out.keep hb5;obtain ⟨z0,z1,z2,z3⟩:=Yb ⟨y0,y1,y2,y3⟩ hs4 hb5;clear hb5;obtain ⟨l0,l1,l2,l3,m0,m1,m2,m3,hv,hv'⟩:=hP5.out.cells))
          exact bodyPost_ret (v:=.tuple #[.agg #[.slice none 0 0,.bool false,.int .i64 0,.string ⟨#[]⟩],.int .i64 5]) (by simp [results,Tryz.results92,go_sem, *]) rfl (Zs HE.out (by decide) (hP5.out.done _ _ _ _).2)
        | false =>
          have HG:Hid (Y0 (ts,x)=false):=by rw [Hid,hlg,hany];simp;omega
          have HO:Hid (∀ (v:Value) (w':World),w'.ownsRow w.heap.size 122 2 v ts.length (Ye (ts.map natT))→Bw w w'→DOut s.data.toList w (.returned (.tuple #[.agg #[v,.bool (X6 x),.int .i64 (retT x).1,.string ⟨(retT x).2.toArray⟩],.int .i64 0])) w') :=
           fun v w' ho hb=>Ze2 hrd hl2 HG.out ho hb
          rw [hany] at HK
          clear hE HR hr hlen hrd hws hl2 HA hrl h0 hLE hlg hdd hdp hany HG
          generalize (retT x).1=rd at *
          generalize (⟨(retT x).2.toArray⟩:ByteArray)=rn at *
          generalize X6 x=vb at *
          go_enter Tryz.func92,Tryz.ntmps92
          go_wp2_with (first
           | (go_at_call 110;refine ((HN.out) _).mono ?_;rintro e w1 ⟨rfl,rfl⟩)
           | (go_at_call 111;refine (HQ.out).mono ?_;rintro e w2 ⟨v,rfl,hP0⟩;obtain ⟨ao,cap,rfl⟩:=Zd hP0.out.own;have hP:Hid (Pd w s s.size (.slice ao ts.length cap) ts (w2.alloc (.cells #[.slice ao ts.length cap,.bool vb,.int .i64 rd,.string rn] 124))):=hP0.out.keep ((Below.refl _ _).alloc (Nat.le_refl _) _);have hz2:=hP0.out.cells.2.2.2.2.2.2.2.2.2)
           | (go_at_call 112;refine (HA'.out _ _ hP).mono ?_;rintro e w3 ⟨rfl,hb3⟩;have hP3:Hid (Pd w s s.size (.slice ao ts.length cap) ts w3):=hP.out.keep hb3;have hs3:w2.heap.size<w3.heap.size:=sqS hb3;obtain ⟨t0,t1,t2,t3⟩:=Yb (Qz w2 _ _ _ _ 124) (by simp) hb3;clear hb3;obtain ⟨d0,d1,d2,d3,g0,g1,g2,g3,hy,hy'⟩:=hP3.out.cells)
           | (go_at_call 113;refine ((HD.out) _).mono ?_;rintro e w4 ⟨rfl,hb4⟩;have hP4:Hid (Pd w s s.size (.slice ao ts.length cap) ts w4):=hP3.out.keep hb4;have hs4:w2.heap.size<w4.heap.size:=(by have:=hb4.size;omega);obtain ⟨y0,y1,y2,y3⟩:=Yb ⟨t0,t1,t2,t3⟩ hs3 hb4;clear hb4;obtain ⟨j0,j1,j2,j3,k0,k1,k2,k3,hx,hx'⟩:=hP4.out.cells)
           | (go_at_call 114;refine ((HK.out) _ _ hP4).mono ?_;rintro e w5 ⟨rfl,hb5⟩;have hP5:Hid (Pd w s s.size (.slice ao ts.length cap) ts w5):=hP4.out.keep hb5;obtain ⟨z0,z1,z2,z3⟩:=Yb ⟨y0,y1,y2,y3⟩ hs4 hb5;clear hb5;obtain ⟨l0,l1,l2,l3,m0,m1,m2,m3,hv,hv'⟩:=hP5.out.cells))
          exact bodyPost_ret (v:=.tuple #[.agg #[.slice ao ts.length cap,.bool vb,.int .i64 rd,.string rn],.int .i64 0]) (by simp [results,Tryz.results92,go_sem, *]) rfl (HO.out _ _ (hP5.out.done _ _ _ _).1 (hP5.out.done _ _ _ _).2)
structure Nd where
 i:Bool
 sp:Nat
 cl:List Nat
structure WO (ns:List Nd):Prop where
 top:∃ n,ns[0]?=some n∧n.sp=0∧n.cl=[]∧n.i=false
 sp:∀ (k:Nat) (n:Nd),0<k→ns[k]?=some n→n.sp<k∧(∀ p,ns[n.sp]?=some p→p.i=false∧∀ i∈p.cl,i∈n.cl)∧(n.i=true→n.sp=0)
 cl:∀ (k:Nat) (n:Nd),ns[k]?=some n→n.cl.Nodup∧∀ i∈n.cl,i<k∧∃ p,ns[i]?=some p∧p.i=true∧∀ j∈p.cl,j∈n.cl
def spO (ns:List Nd) (k:Nat):Nat:=match ns[k]? with
 | some n=>n.sp
 | none=>0
def clO (ns:List Nd) (k:Nat):List Nat:=match ns[k]? with
 | some n=>n.cl
 | none=>[]
def upF (ns:List Nd):Nat→Nat→List Nat
 | 0,k=>[k]
 | f+1,k=>k::(if k=0 then [] else upF ns f (spO ns k))
def chL (ns:List Nd) (k:Nat):List Nat:=upF ns k k
theorem WO.spLt {ns:List Nd} (h:WO ns) {k:Nat} (hk:k<ns.length) (h0:0<k):spO ns k<k:=by
 have e:ns[k]?=some ns[k]:=List.getElem?_eq_getElem hk
 have:=(h.sp k _ h0 e).1
 rw [spO,e];exact this
theorem upF_eq {ns:List Nd} (h:WO ns):∀ (f g k:Nat),k≤f→k≤g→k<ns.length→upF ns f k=upF ns g k
 | 0,0,_,_,_,_=>rfl
 | 0,g+1,k,hf,_,_=>by
   obtain rfl:k=0:=by omega
   rfl
 | f+1,0,k,_,hg,_=>by
   obtain rfl:k=0:=by omega
   rfl
 | f+1,g+1,k,hf,hg,hk=>by
   rw [upF,upF]
   by_cases h0:k=0
   ·rw [if_pos h0,if_pos h0]
   ·rw [if_neg h0,if_neg h0]
    have:=h.spLt hk (by omega)
    rw [upF_eq h f g (spO ns k) (by omega) (by omega) (by omega)]
theorem Zab (ns:List Nd):chL ns 0=[0]:=rfl
theorem Zac {ns:List Nd} (h:WO ns) {k:Nat} (hk:k<ns.length) (h0:0<k):chL ns k=k::chL ns (spO ns k):=by
 have hs:=h.spLt hk h0
 obtain ⟨j,rfl⟩:∃ j,k=j+1:=⟨k - 1,by omega⟩
 rw [chL,upF,if_neg (by omega),chL,upF_eq h j (spO ns (j+1)) (spO ns (j+1)) (by omega) (Nat.le_refl _) (by omega)]
theorem chL_self (ns:List Nd) (k:Nat):k∈chL ns k:=by
 cases k with
 | zero=>simp [Zab]
 | succ k=>simp [chL,upF]
theorem ch_ind {ns:List Nd} (h:WO ns) {P:Nat→Prop} (h0:P 0) (hs:∀ k,k<ns.length→0<k→spO ns k<k→P (spO ns k)→P k):∀ k,k<ns.length→P k:=by
 intro k
 induction k using Nat.strongRecOn with
 | _ k ih =>
   intro hk
   by_cases hz:k=0
   ·rw [hz];exact h0
   ·have:=h.spLt hk (by omega)
    exact hs k hk (by omega) this (ih _ this (by omega))
theorem ch_pos {ns:List Nd} (a:Nat):0<(chL ns a).length:=by
 have:=chL_self ns a
 exact List.length_pos_of_mem this
theorem Xj {ns:List Nd} (h:WO ns) {a i:Nat} (hi:i∈clO ns a):i<a∧a<ns.length∧∃ p,ns[i]?=some p∧p.i=true∧∀ j∈p.cl,j∈clO ns a:=by
 cases e:ns[a]? with
 | none=>rw [clO,e] at hi;simp at hi
 | some n =>
   rw [clO,e] at hi ⊢
   obtain ⟨h1,h2⟩:=(h.cl a n e).2 i hi
   exact ⟨h1,(List.getElem?_eq_some_iff.1 e).1,h2⟩
theorem Zfw {ns:List Nd} (h:WO ns) (a:Nat):(clO ns a).Nodup:=by
 cases e:ns[a]? with
 | none=>rw [clO,e];simp
 | some n=>rw [clO,e];exact (h.cl a n e).1
theorem Z8 (cl a:List Nat) (i:Nat):i∈Zg cl a↔i∈cl∨i∈a:=by
 induction a generalizing cl with
 | nil=>simp [Zg]
 | cons x a ih =>
   rw [Zg,ih]
   split
   ·rename_i hx
    have hx:=List.contains_iff_mem.1 hx
    simp only [List.mem_cons]
    constructor
    ·rintro (h|h)
     ·exact .inl h
     ·exact .inr (.inr h)
    ·rintro (h|rfl|h)
     ·exact .inl h
     ·exact .inl hx
     ·exact .inr h
   ·simp only [List.mem_append,List.mem_cons,List.not_mem_nil,or_false,or_assoc]
theorem Zin (cls:List (List Nat)) (ifs:List Nat) (c:List Nat) (i:Nat):i∈ifs.foldl (gathF cls) c↔i∈c∨∃ x∈ifs,i=x∨i∈cls.getD x []:=by
 induction ifs generalizing c with
 | nil=>simp
 | cons x l ih =>
   rw [List.foldl_cons,ih,gathF,Z8,Z8]
   simp only [List.mem_cons,List.not_mem_nil,or_false,exists_eq_or_imp]
   constructor
   ·rintro (((h|h)|h)|h)
    ·exact .inl h
    ·exact .inr (.inl (.inr h))
    ·exact .inr (.inl (.inl h))
    ·exact .inr (.inr h)
   ·rintro (h|(h|h)|h)
    ·exact .inl (.inl (.inl h))
    ·exact .inl (.inr h)
    ·exact .inl (.inl (.inr h))
    ·exact .inr h
theorem Zim (cls:List (List Nat)) (sup:Nat) (ifs:List Nat) (i:Nat):i∈Zz cls sup ifs↔i∈cls.getD sup []∨∃ x∈ifs,i=x∨i∈cls.getD x []:=by
 rw [Zz,Zin,Z8];simp
theorem Ze1 (cls:List (List Nat)) (sup:Nat) (ifs:List Nat):(Zz cls sup ifs).Nodup:=by
 have key:∀ (l:List Nat) (c:List Nat),c.Nodup→(l.foldl (gathF cls) c).Nodup:=by
  intro l
  induction l with
  | nil=>exact fun c h=>h
  | cons x l ih=>exact fun c h=>ih _ (Yd _ _ (Yd _ _ h))
 exact key _ _ (Yd _ _ (by simp))
theorem Ze0 (ns:List Nd) (k:Nat):(ns.map Nd.cl).getD k []=clO ns k:=by
 rw [List.getD_eq_getElem?_getD,List.getElem?_map,clO]
 cases ns[k]? <;> rfl
theorem WO.snoc {ns:List Nd} (h:WO ns) (ib:Bool) (s:Nat) (ifs:List Nat) (hs:∃ p,ns[s]?=some p∧p.i=false) (hi:ib=true→s=0) (hif:∀ x∈ifs,∃ p,ns[x]?=some p∧p.i=true) :
 WO (ns++[⟨ib,s,Zz (ns.map Nd.cl) s ifs⟩]):=by
 obtain ⟨ps,hps,hpi⟩:=hs
 have hsl:=(List.getElem?_eq_some_iff.1 hps).1
 have old:∀ (k:Nat) (n:Nd),(ns++[(⟨ib,s,Zz (ns.map Nd.cl) s ifs⟩:Nd)])[k]?=some n→(k<ns.length∧ns[k]?=some n)∨(k=ns.length∧n=⟨ib,s,Zz (ns.map Nd.cl) s ifs⟩):=by
  intro k n hk
  by_cases hl:k<ns.length
  ·rw [List.getElem?_append_left hl] at hk;exact .inl ⟨hl,hk⟩
  ·rw [List.getElem?_append_right (by omega)] at hk
   by_cases he:k=ns.length
   ·subst he;simp at hk;exact .inr ⟨rfl,hk.symm⟩
   ·rw [List.getElem?_eq_none (by simp;omega)] at hk;cases hk
 have up:∀ (k:Nat) (p:Nd),ns[k]?=some p→(ns++[(⟨ib,s,Zz (ns.map Nd.cl) s ifs⟩:Nd)])[k]?=some p:=fun k p hk=>by
  rw [List.getElem?_append_left (List.getElem?_eq_some_iff.1 hk).1];exact hk
 have mem:∀ i,i∈Zz (ns.map Nd.cl) s ifs↔i∈clO ns s∨∃ x∈ifs,i=x∨i∈clO ns x:=fun i=>by rw [Zim,Ze0];simp only [Ze0]
 refine ⟨?_,?_,?_⟩
 ·obtain ⟨n,h1,h2⟩:=h.top
  exact ⟨n,up _ _ h1,h2⟩
 ·intro k n h0 hk
  rcases old k n hk with ⟨hl,hk⟩|⟨rfl,rfl⟩
  ·obtain ⟨h1,h2,h3⟩:=h.sp k n h0 hk
   refine ⟨h1,fun p hp=>?_,h3⟩
   rw [List.getElem?_append_left (by omega)] at hp
   exact h2 p hp
  ·refine ⟨hsl,fun p hp=>?_,hi⟩
   rw [List.getElem?_append_left hsl,hps] at hp
   cases hp
   refine ⟨hpi,fun i hc=>(mem i).2 (.inl ?_)⟩
   rw [clO,hps];exact hc
 ·intro k n hk
  rcases old k n hk with ⟨hl,hk⟩|⟨rfl,rfl⟩
  ·obtain ⟨h1,h2⟩:=h.cl k n hk
   refine ⟨h1,fun i hc=>?_⟩
   obtain ⟨h3,p,hp,h4⟩:=h2 i hc
   exact ⟨h3,p,up _ _ hp,h4⟩
  ·refine ⟨Ze1 _ _ _,fun i hc=>?_⟩
   rcases (mem i).1 hc with hc|⟨x,hx,rfl|hc⟩
   ·obtain ⟨h1,h2,p,hp,h3,h4⟩:=Xj h hc
    exact ⟨by omega,p,up _ _ hp,h3,fun j hj=>(mem j).2 (.inl (h4 j hj))⟩
   ·obtain ⟨p,hp,h3⟩:=hif i hx
    refine ⟨(List.getElem?_eq_some_iff.1 hp).1,p,up _ _ hp,h3,fun j hj=>(mem j).2 (.inr ⟨i,hx,.inr ?_⟩)⟩
    rw [clO,hp];exact hj
   ·obtain ⟨h1,h2,p,hp,h3,h4⟩:=Xj h hc
    exact ⟨by omega,p,up _ _ hp,h3,fun j hj=>(mem j).2 (.inr ⟨x,hx,.inr (h4 j hj)⟩)⟩
def nd (q:Plc):Nd:=⟨ifB q.c.fl,q.sp,q.cl⟩
theorem nhas_at {l:List Nat} {p:Nat} (k:Nat) (x:Nat) (h:l[k]?=some x):(l.drop k).contains p=((p == x)||(l.drop (k+1)).contains p):=by
 obtain ⟨h1,h2⟩:=List.getElem?_eq_some_iff.1 h
 rw [List.drop_eq_getElem_cons h1,h2,List.contains_cons]
theorem Zhn (b1 o1 c1 b2 o2 c2:Nat) (ps qs:List (List UInt8)) (w:World) (hl1:ps.length≤c1) (hm1:c1≤maxLen)
 (hc1:∀ k p,ps[k]?=some p→w.cell? ⟨b1,o1+k,none⟩=some (.string ⟨p.toArray⟩)) (hc2:∀ k p,qs[k]?=some p→w.cell? ⟨b2,o2+k,none⟩=some (.string ⟨p.toArray⟩)) :
 Calls Tryz.prog 39 #[.slice (some ⟨b1,o1,none⟩) ps.length c1,.slice (some ⟨b2,o2,none⟩) qs.length c2] w fun e w'=>e=.returned (.bool (decide (ps=qs)))∧∃ n,w'=w.drewN n:=by
 unfold maxLen at hm1
 by_cases hlen:ps.length=qs.length
 ·have H1:Hid _:=hc1
  have H2:Hid _:=hc2
  have hq:((ps.length:Int) == (qs.length:Int))=true:=by rw [beq_iff_eq];omega
  have hle1:ps.length≤qs.length:=by omega
  have hle2:qs.length≤ps.length:=by omega
  have HLEN:Hid _:=hlen
  clear hc1 hc2 hlen
  go_enter Tryz.func39,Tryz.ntmps39
  go_wp2
  go_loopw [5] (fun i wr=>∃ k n:Nat,k≤ps.length∧i=.int .i64 k∧wr=w.drewN n∧Hid (ps.take k=qs.take k)) (fun i _=>ps.length - (intOf i).toNat)
  case atStart=>exact ⟨0,0,Nat.zero_le _,rfl,rfl,rfl⟩
  case round =>
   obtain ⟨k,n,hk,rfl,rfl,hr⟩:=hrel
   by_cases h1:k<ps.length
   ·have h2:k<qs.length:=by omega
    obtain ⟨p,hp⟩:∃ p,ps[k]?=some p:=⟨_,List.getElem?_eq_getElem h1⟩
    obtain ⟨q,hqk⟩:∃ q,qs[k]?=some q:=⟨_,List.getElem?_eq_getElem h2⟩
    have g1:=H1.out k p hp
    have g2:=H2.out k q hqk
    have HS:Hid _:=Zhm ps qs k p q hp hqk
    have HT:Hid (p=q→ps.take (k+1)=qs.take (k+1)):=fun e=>by
     rw [List.take_add_one,List.take_add_one,hr.out,hp,hqk,e]
    clear hp hqk H1 H2
    by_cases e:p=q
    ·have HT2:Hid _:=HT.out e
     subst e
     clear HT HS hr
     go_wp2
     go_quiet (fail)
     go_wp2
     go_roundw
     case rel=>exact ⟨k+1,_,by omega,by go_num,rfl,HT2⟩
     case measure=>simp [intOf];omega
    ·have HS2:Hid _:=HS.out e
     have hpq:(p == q)=false:=by simpa using e
     clear HT HS hr e
     go_wp2
     go_quiet (fail)
     go_wp2
     go_ret
     exact ⟨Za HS2.out.symm,_,World.drewN_drewN ..⟩
   ·have hk':k=ps.length:=by omega
    have HS:Hid _:=same_end ps qs HLEN.out (by have:=hr.out;rw [hk'] at this;exact this)
    clear hr hk' H1 H2
    go_wp2
    go_ret
    exact ⟨Za HS.out.symm,_,rfl⟩
 ·have hq:((ps.length:Int) == (qs.length:Int))=false:=by rw [beq_eq_false_iff_ne];omega
  have HS:Hid (decide (ps=qs)=false):=by simp only [Hid,decide_eq_false_iff_not];intro e;rw [e] at hlen;exact hlen rfl
  clear hlen hc1 hc2
  go_enter Tryz.func39,Tryz.ntmps39
  go_wp2
  go_ret
  exact ⟨Za HS.out.symm,0,rfl⟩
theorem same_any (v1 v2:Value) (ps qs:List (List UInt8)) (w:World) (h1:IsStrs w v1 ps) (h2:IsStrs w v2 qs) (n1:ps≠[]) (n2:qs≠[]) :
 Calls Tryz.prog 39 #[v1,v2] w fun e w'=>e=.returned (.bool (decide (ps=qs)))∧∃ n,w'=w.drewN n:=by
 obtain ⟨ao,c1,rfl,k1,m1,x1⟩:=h1
 obtain ⟨bo,c2,rfl,_,_,x2⟩:=h2
 obtain ⟨b1,o1,rfl,_,y1⟩:=x1 n1
 obtain ⟨b2,o2,rfl,_,y2⟩:=x2 n2
 exact Zhn b1 o1 c1 b2 o2 c2 ps qs w k1 m1 y1 y2
theorem Xn (s:ByteArray) (hs:s.size≤maxLen) (w:World) :
 Calls Tryz.prog 151 #[.string s] w fun e w'=>e=.returned (.tuple #[.agg #[.int .i64 (prfT s.data.toList).1,.string ⟨(prfT s.data.toList).2.toArray⟩],.int .i64 (prfE s.data.toList)])∧Bw w w':=by
 have hlen:s.data.toList.length=s.size:=by simp
 have HP:Hid (∀ w,_):=Zdf s hs
 have HV:Hid (∀ w,_):=Y7 s hs
 have HH:Hid (∀ w,_):=Qw s 91
 have hE:prfE s.data.toList=if s.data.toList.head?=some 91 then parE s.data.toList else if 2000<s.data.toList.length then 5 else if Zk s.data.toList then 0 else 4:=by
  unfold prfE
  by_cases h1:s.data.toList.head?=some 91
  ·by_cases h2:2000<s.data.toList.length
   ·rw [if_pos h2,if_pos h1,parE,if_pos h2]
   ·rw [if_neg h2,if_pos h1,if_pos h1]
  ·rw [if_neg h1,if_neg h1]
 have hT:prfT s.data.toList=if s.data.toList.head?=some 91 then parT s.data.toList else if 2000<s.data.toList.length then (0,[]) else if Zk s.data.toList then (0,s.data.toList) else (0,[]):=by
  unfold prfT
  by_cases h1:s.data.toList.head?=some 91
  ·by_cases h2:2000<s.data.toList.length
   ·rw [if_pos h2,if_pos h1,parT,parE,if_pos h2];rfl
   ·rw [if_neg h2,if_pos h1,if_pos h1]
  ·rw [if_neg h1,if_neg h1]
 unfold maxLen at hs
 by_cases hh:s.data.toList.head?=some 91
 ·have h0:hd s 91=true:=by simp [hd,hh]
  rw [h0] at HH
  have HE:Hid (prfE s.data.toList=parE s.data.toList):=by rw [Hid,hE,if_pos hh]
  have HT:Hid (prfT s.data.toList=parT s.data.toList):=by rw [Hid,hT,if_pos hh]
  clear hlen HV hh hE hT h0
  generalize prfE s.data.toList=x at *
  generalize prfT s.data.toList=t at *
  generalize parE s.data.toList=pe at *
  generalize parT s.data.toList=pt at *
  go_enter Tryz.func151,Tryz.ntmps151
  go_wp2_with (first
   | (go_at_call 135;refine ((HH.out) _).mono ?_;rintro e w0 ⟨rfl,rfl⟩)
   | (go_at_call 152;refine ((HP.out) _).mono ?_;rintro e w1 ⟨rfl,hb1⟩;have hr0:=hb1.cell (p:=⟨w.heap.size,0,none⟩) (by simp);have hr1:=hb1.cell (p:=⟨w.heap.size,1,none⟩) (by simp);have hf0:=hb1.frozen (p:=⟨w.heap.size,0,none⟩) (by simp);have hf1:=hb1.frozen (p:=⟨w.heap.size,1,none⟩) (by simp)))
  refine bodyPost_ret (v:=.tuple #[.agg #[.int .i64 pt.1,.string ⟨pt.2.toArray⟩],.int .i64 pe]) (by simp [results,Tryz.results151,go_sem, *]) rfl ⟨?_,?_⟩
  ·rw [HT.out,HE.out]
  ·have hb9:Bw w w1:=sqT hb1
   exact (hb9.setCell (Nat.le_refl _) _).setCell (Nat.le_refl _) _
 ·have h0:hd s 91=false:=by simp [hd,hh]
  rw [h0] at HH
  by_cases hbig:2000<s.size
  ·have HE:Hid (prfE s.data.toList=5):=by rw [Hid,hE,if_neg hh,if_pos (by rw [hlen];exact hbig)]
   have HT:Hid (prfT s.data.toList=(0,[])):=by rw [Hid,hT,if_neg hh,if_pos (by rw [hlen];exact hbig)]
   clear hlen HV hh hE hT h0 HP
   generalize prfE s.data.toList=x at *
   generalize prfT s.data.toList=t at *
   go_enter Tryz.func151,Tryz.ntmps151
   go_wp2_with (go_at_call 135;refine ((HH.out) _).mono ?_;rintro e w0 ⟨rfl,rfl⟩)
   refine bodyPost_ret (v:=.tuple #[.agg #[.int .i64 0,.string ⟨#[]⟩],.int .i64 5]) (by simp [results,Tryz.results151,go_sem, *]) rfl ⟨?_,?_⟩
   ·rw [HT.out,HE.out];rfl
   ·exact (Below.refl _ _).alloc (Nat.le_refl _) _
  ·have hng:¬ 2000<s.data.toList.length:=by rw [hlen];exact hbig
   cases hv:Zk s.data.toList with
   | true =>
     have HE:Hid (prfE s.data.toList=0):=by rw [Hid,hE,if_neg hh,if_neg hng,hv];rfl
     have HT:Hid (prfT s.data.toList=(0,s.data.toList)):=by rw [Hid,hT,if_neg hh,if_neg hng,hv];rfl
     rw [hv] at HV
     clear hlen HP hh hng hv hE hT h0
     generalize prfE s.data.toList=x at *
     generalize prfT s.data.toList=t at *
     go_enter Tryz.func151,Tryz.ntmps151
     go_wp2_with (first
      | (go_at_call 135;refine ((HH.out) _).mono ?_;rintro e w0 ⟨rfl,rfl⟩)
      | (go_at_call 70;refine ((HV.out) _).mono ?_;rintro e w1 ⟨rfl,hb1⟩;have hr0:=hb1.cell (p:=⟨w.heap.size,0,none⟩) (by simp);have hr1:=hb1.cell (p:=⟨w.heap.size,1,none⟩) (by simp);have hf0:=hb1.frozen (p:=⟨w.heap.size,0,none⟩) (by simp);have hf1:=hb1.frozen (p:=⟨w.heap.size,1,none⟩) (by simp)))
     refine bodyPost_ret (v:=.tuple #[.agg #[.int .i64 0,.string s],.int .i64 0]) (by simp [results,Tryz.results151,go_sem, *]) rfl ⟨?_,?_⟩
     ·rw [HT.out,HE.out];rfl
     ·have hb9:Bw w w1:=sqT hb1
      exact (hb9.setCell (Nat.le_refl _) _).setCell (Nat.le_refl _) _
   | false =>
     have HE:Hid (prfE s.data.toList=4):=by rw [Hid,hE,if_neg hh,if_neg hng,hv];rfl
     have HT:Hid (prfT s.data.toList=(0,[])):=by rw [Hid,hT,if_neg hh,if_neg hng,hv];rfl
     rw [hv] at HV
     clear hlen HP hh hng hv hE hT h0
     generalize prfE s.data.toList=x at *
     generalize prfT s.data.toList=t at *
     go_enter Tryz.func151,Tryz.ntmps151
     go_wp2_with (first
      | (go_at_call 135;refine ((HH.out) _).mono ?_;rintro e w0 ⟨rfl,rfl⟩)
      | (go_at_call 70;refine ((HV.out) _).mono ?_;rintro e w1 ⟨rfl,hb1⟩;have hr0:=hb1.cell (p:=⟨w.heap.size,0,none⟩) (by simp);have hr1:=hb1.cell (p:=⟨w.heap.size,1,none⟩) (by simp);have hf0:=hb1.frozen (p:=⟨w.heap.size,0,none⟩) (by simp);have hf1:=hb1.frozen (p:=⟨w.heap.size,1,none⟩) (by simp)))
     refine bodyPost_ret (v:=.tuple #[.agg #[.int .i64 0,.string ⟨#[]⟩],.int .i64 4]) (by simp [results,Tryz.results151,go_sem, *]) rfl ⟨?_,?_⟩
     ·rw [HT.out,HE.out];rfl
     ·have hb9:Bw w w1:=sqT hb1
      exact (hb9.setCell (Nat.le_refl _) _).setCell (Nat.le_refl _) _
theorem rds_num {w:World} {av:Option Addr} {n c:Nat} {l:List Nat} {i x:Nat} (h:Rds w (.slice av n c) n 1 (l.map numV)) (hx:l[i]?=some x):∃ bk o,av=some ⟨bk,o,none⟩∧bk<w.heap.size∧w.cell? ⟨bk,o+i,none⟩=some (.int .i64 (x:Int)):=by
 have hl:=h.len
 rw [List.length_map] at hl
 have:=(List.getElem?_eq_some_iff.1 hx).1
 rcases h.val with ⟨_,e2⟩|⟨bk,o,c,e,_,_,h3,h4⟩
 ·omega
 ·simp only [Value.slice.injEq] at e
  exact ⟨bk,o,e.1,h3,h4 i _ (by rw [List.getElem?_map,hx];rfl)⟩
theorem rHas_any (v:Value) (l:List Nat) (p:Nat) (W:World) (h:Rds W v l.length 1 (l.map numV)) (hl:l.length≤1000000) :
 Calls Tryz.prog 68 #[v,.int .i64 (p:Int)] W fun e w'=>e=.returned (.bool (l.contains p))∧Bw W w':=by
 obtain ⟨av,cv,rfl⟩:=h.slice
 have HV:Hid (Rds W (.slice av l.length cv) l.length 1 (l.map numV)):=h
 obtain ⟨N,hN⟩:∃ N,l.length=N:=⟨_,rfl⟩
 rw [hN] at hl ⊢
 have HN1:Hid (l.length=N):=hN
 obtain ⟨z,hz⟩:∃ z,z=l.contains p:=⟨_,rfl⟩
 rw [← hz]
 have HZ:Hid (z=l.contains p):=hz
 clear hN h hz
 go_enter Tryz.func68,Tryz.ntmps68
 go_wp2
 go_loopw [5] (fun iv wr=>∃ i:Nat,iv=.int .i64 i∧i≤N∧Hid (Bw W wr)∧Hid ((l.drop i).contains p=l.contains p)) (fun iv _=>N - (intOf iv).toNat)
 case atStart=>exact ⟨0,rfl,Nat.zero_le _,Below.refl _ _,rfl⟩
 case round =>
  obtain ⟨i,rfl,hi,hb,hs⟩:=hrel
  by_cases hlt:i<N
  ·obtain ⟨x,hx⟩:∃ x,l[i]?=some x:=⟨_,List.getElem?_eq_getElem (by rw [HN1.out];exact hlt)⟩
   obtain ⟨bk,o,rfl,hbk,hcell⟩:=rds_num HV.out hx
   have hst:=nhas_at (p:=p) i x hx
   rw [hs.out] at hst
   have p0:=(hb.out.cell (p:=⟨bk,o+i,none⟩) hbk).trans hcell
   have hltI:(i:Int)<(N:Int):=by omega
   clear hs hx hcell
   by_cases hq:p=x
   ·subst hq
    have hzt:z=true:=by rw [HZ.out,hst];simp
    subst hzt
    clear hst
    go_wp2
    all_goals (try go_quiet (fail))
    all_goals (try go_wp2)
    go_ret
    exact ⟨rfl,by first|exact hb.out|exact below_drewN hb.out _⟩
   ·have HZ2:Hid ((l.drop (i+1)).contains p=l.contains p):=by rw [Hid,hst];simp [hq]
    have hq2:¬ (x:Int)=(p:Int):=by omega
    clear hst
    go_wp2
    all_goals (try go_quiet (fail))
    all_goals (try go_wp2)
    go_roundw
    case rel=>exact ⟨i+1,by go_num,by omega,by first|exact hb|exact below_drewN hb.out _,HZ2⟩
    case measure=>simp [intOf];omega
  ·have e:i=N:=by omega
   subst e
   have hzf:z=false:=by rw [HZ.out,← hs.out,List.drop_of_length_le (by rw [HN1.out];exact Nat.le_refl _)];rfl
   subst hzf
   clear hs
   go_wp2
   go_ret
   exact ⟨rfl,hb.out⟩
end Go.Proofs.YtkoogmegdfpopaaGreat
