import Derived.Test.YtfbhjfpkhofifaaGreatDoorOwnParse
set_option maxHeartbeats 4000000
set_option maxRecDepth 100000
namespace Go.Proofs.YtfbhjfpkhofifaaGreatDoor
open Go.RowKit
def Jo (t:Int×ByteArray):Bool:=decide (255<t.1)
theorem Zgb (v:Value) (ts:List (Int×ByteArray)) (W:World) (h:IsTys W v ts) :
 Calls Tryz.prog 111 #[v,.func (.func 69) #[] #[]] W fun e w'=>(∃ i:Int,e=.returned (.int .i64 i)∧decide (0≤i)=ts.any Jo)∧Bw W w':=by
 obtain ⟨ao,cap,rfl,h1,h2,h3⟩:=h;unfold maxLen at h2;have H3:Hid _:=h3;clear h3;have HD:Hid (∀ (d:Int) (n:ByteArray) (w:World),_):=Zb8;go_enter Tryz.func111,Tryz.ntmps111;go_wp2;go_loopw [8] (fun iv wr=>∃ i:Nat,iv=.int .i64 i∧i≤ts.length∧Hid (Bw W wr)∧Hid ((ts.drop i).any Jo=ts.any Jo)) (fun iv _=>ts.length - (intOf iv).toNat)
 case atStart=>exact ⟨0,rfl,Nat.zero_le _,Below.refl _ _,rfl⟩
 case round =>
  obtain ⟨i,rfl,hi,hb,ha⟩:=hrel;by_cases hlt:i<ts.length
  ·obtain ⟨bk,o,hao,hbk,hc⟩:=H3.out (by intro e;rw [e] at hlt;simp at hlt);obtain ⟨⟨d,n⟩,ht⟩:∃ t,ts[i]?=some t:=⟨_,List.getElem?_eq_getElem hlt⟩;subst hao;obtain ⟨c0,c1⟩:=hc i _ ht;have k0:wr.cell? ⟨bk,o+i * 2,none⟩=some (.int .i64 d):=(hb.out.cell (p:=⟨bk,o+i * 2,none⟩) hbk).trans c0;have k1:wr.cell? ⟨bk,o+i * 2+1,none⟩=some (.string n):=(hb.out.cell (p:=⟨bk,o+i * 2+1,none⟩) hbk).trans c1;have hdr:ts.drop i=(d,n)::ts.drop (i+1):=by
    rw [List.drop_eq_getElem_cons hlt];rw [List.getElem?_eq_getElem hlt] at ht;rw [Option.some.inj ht]
   have HI:Hid (∀ w,_):=HD.out d n;by_cases hd:255<d
   ·have HA:Hid (ts.any Jo=true):=by rw [Hid,← ha.out,hdr];simp [Jo,hd]
    have hdd:decide (255<d)=true:=by simpa using hd
    rw [hdd] at HI;clear hc c0 c1 H3 HD hdr ht ha hd hdd;go_wp2_with (go_at_call 69;refine (HI.out _).mono ?_;rintro e w1 ⟨rfl,hb1⟩)
    go_ret
    exact ⟨⟨i,rfl,by rw [HA.out];simp⟩,Below.step hb.out hb1⟩
   ·have HA:Hid ((ts.drop (i+1)).any Jo=ts.any Jo):=by rw [Hid,← ha.out,hdr];simp [Jo,hd]
    have hdd:decide (255<d)=false:=by simpa using hd
    rw [hdd] at HI;clear hc c0 c1 H3 HD hdr ht ha hd hdd;go_wp2_with (go_at_call 69;refine (HI.out _).mono ?_;rintro e w1 ⟨rfl,hb1⟩;have hb2:Hid (Bw W w1):=Below.step hb.out hb1;clear hb1)
    go_roundw
    case rel=>exact ⟨i+1,by go_num,by omega,hb2,HA⟩
    case measure=>simp [intOf];omega
  ·have HA:Hid (ts.any Jo=false):=by rw [Hid,← ha.out,List.drop_of_length_le (by omega)];rfl
   clear H3 HD ha;go_wp2;go_ret
   exact ⟨⟨-1,rfl,by rw [HA.out];rfl⟩,hb.out⟩
theorem Zh3 (v:Value) (ts:List (Int×ByteArray)) (W:World) (h:IsTys W v ts) :
 Calls Tryz.prog 70 #[v,.func (.func 69) #[] #[]] W fun e w'=>e=.returned (.bool (ts.any Jo))∧Bw W w':=by
 have HI:Hid (Calls Tryz.prog 111 #[v,.func (.func 69) #[] #[]] W fun e w'=>(∃ i:Int,e=.returned (.int .i64 i)∧Hid (decide (0≤i)=ts.any Jo))∧Bw W w'):=Zgb v ts W h;obtain ⟨ao,cap,rfl,_⟩:=h;go_enter Tryz.func70,Tryz.ntmps70;go_wp2_with (go_at_call 111;refine (HI.out).mono ?_;rintro e w1 ⟨⟨i,rfl,hi⟩,hb1⟩)
 go_ret
 exact ⟨Zb hi.out,hb1⟩
theorem Y8 (l:List UInt8):Zba l=match descOf l with
 | some (d,[])=>some d
 | _=>none:=by
 unfold Zba descOf
 split
 ·rename_i r
  have ha:Yq (40::r)=Yh (r.length+1) r:=rfl;rw [ha]
  cases e:Yh (r.length+1) r with
  | none=>rfl
  | some p =>
    obtain ⟨ts,q⟩:=p;simp only;by_cases h86:q.head?=some 86
    ·rw [if_pos h86]
     cases q with
     | nil=>simp at h86
     | cons c q =>
       simp at h86;subst h86
       cases q with
       | nil=>rfl
       | cons c2 q2 =>
         have hr:Yi (86::c2::q2)=none:=by simp [Yi,Z6]
         simp [Zby,hr]
    ·rw [if_neg h86];have hne:q≠[86]:=fun z=>by rw [z] at h86;exact h86 rfl
     unfold Zby;rw [if_neg hne]
     cases hr:Yi q with
     | none=>rfl
     | some p =>
       obtain ⟨t,r2⟩:=p
       cases r2 <;> rfl
 ·rename_i hx
  have ha:Yq l=none:=by
   unfold Yq
   split
   ·rename_i r;exact absurd rfl (hx r)
   ·rfl
  rw [ha]
def Qp (d:List (Nat×List UInt8)×Option (Nat×List UInt8)):Bool:=decide (20<d.1.length)||decide (255<(retT d.2).1)||(d.1.map natT).any Jo
def pdE (l:List UInt8):Int:=if 2000<l.length then 5 else match Zba l with
 | none=>4
 | some d=>if Qp d then 5 else 0
def pdD (l:List UInt8):List (Nat×List UInt8)×Option (Nat×List UInt8):=if pdE l=0 then (Zba l).getD ([],some (0,[])) else ([],some (0,[]))
def DOut (l:List UInt8) (w:World) (e:Ending) (w':World):Prop :=
 ∃ v,e=.returned (.tuple #[.agg #[v,.bool (Zag (pdD l).2),.int .i64 (retT (pdD l).2).1,.string ⟨(retT (pdD l).2).2.toArray⟩],.int .i64 (pdE l)]) ∧
   w'.ownsRow w.heap.size 58 2 v (pdD l).1.length (Y5 ((pdD l).1.map natT))∧Bw w w'
theorem Yb {l:List UInt8} {w w':World} {x:Int} (h:pdE l=x) (hx:x≠0) (hb:Bw w w'):DOut l w (.returned (.tuple #[.agg #[.slice none 0 0,.bool false,.int .i64 0,.string ⟨#[]⟩],.int .i64 x])) w':=by
 have e:pdD l=([],some (0,[])):=by rw [pdD,if_neg (by rw [h];exact hx)]
 unfold DOut;rw [e,h];exact ⟨_,rfl,World.ownsRow_nil _ _ _ _,hb⟩
theorem Zkb {l:List UInt8} {w w':World} {ts:List (Nat×List UInt8)} {x:Option (Nat×List UInt8)} {v:Value} (h:Zba l=some (ts,x)) (hl:l.length≤2000) (hg:Qp (ts,x)=false)
 (ho:w'.ownsRow w.heap.size 58 2 v ts.length (Y5 (ts.map natT))) (hb:Bw w w'):DOut l w (.returned (.tuple #[.agg #[v,.bool (Zag x),.int .i64 (retT x).1,.string ⟨(retT x).2.toArray⟩],.int .i64 0])) w':=by
 have h0:pdE l=0:=by rw [pdE,if_neg (by omega),h];simp [hg]
 have e:pdD l=(ts,x):=by rw [pdD,if_pos h0,h];rfl
 unfold DOut;rw [e,h0];exact ⟨v,rfl,ho,hb⟩
structure Pd (w:World) (s:ByteArray) (q:Nat) (v:Value) (ts:List (Nat×List UInt8)) (w2:World):Prop where
 r:w2.heap[w.heap.size]?=some (.cells Zaz 60 (0,0))
 cur:Cur w2 (w.heap.size+1) s q
 own:w2.ownsRow (w.heap.size+1) 58 2 v ts.length (Y5 (ts.map natT))
 bel:Bw w w2
theorem Pd.keep {w w2 w3:World} {s:ByteArray} {q:Nat} {v:Value} {ts:List (Nat×List UInt8)} (h:Pd w s q v ts w2) (hb:Bw w2 w3):Pd w s q v ts w3 :=
 ⟨by rw [hb.block _ (Array.getElem?_eq_some_iff.1 h.r).1];exact h.r,h.cur.keep hb,own_below h.own hb (Nat.le_refl _),Below.step h.bel hb⟩
theorem Pd.cells {w wr:World} {s:ByteArray} {q:Nat} {v:Value} {ts:List (Nat×List UInt8)} (h:Pd w s q v ts wr) :
 wr.cell? ⟨w.heap.size,0,none⟩=some (.slice none 0 0)∧wr.cell? ⟨w.heap.size,1,none⟩=some (.bool false)∧wr.cell? ⟨w.heap.size,2,none⟩=some (.int .i64 0)∧wr.cell? ⟨w.heap.size,3,none⟩=some (.string ⟨#[]⟩) ∧
 wr.frozen? ⟨w.heap.size,0,none⟩=false∧wr.frozen? ⟨w.heap.size,1,none⟩=false∧wr.frozen? ⟨w.heap.size,2,none⟩=false∧wr.frozen? ⟨w.heap.size,3,none⟩=false∧w.heap.size+1<wr.heap.size∧w.heap.size<wr.heap.size:=by
 refine ⟨?_,?_,?_,?_,?_,?_,?_,?_,h.cur.cells.2.2.2,Nat.lt_of_succ_lt h.cur.cells.2.2.2⟩
 ·rw [cell_of_row _ w.heap.size 0 _ 60 (0,0) h.r];rfl
 ·rw [cell_of_row _ w.heap.size 1 _ 60 (0,0) h.r];rfl
 ·rw [cell_of_row _ w.heap.size 2 _ 60 (0,0) h.r];rfl
 ·rw [cell_of_row _ w.heap.size 3 _ 60 (0,0) h.r];rfl
 all_goals simp [World.frozen?,h.r]
theorem Pd.done {w wr:World} {s:ByteArray} {q:Nat} {v:Value} {ts:List (Nat×List UInt8)} (h:Pd w s q v ts wr) (u0 u1 u2 u3:Value) :
 (set4 wr w.heap.size u0 u1 u2 u3).ownsRow w.heap.size 58 2 v ts.length (Y5 (ts.map natT))∧Bw w (set4 wr w.heap.size u0 u1 u2 u3):=by
 have hg:=J7 wr w.heap.size u0 u1 u2 u3;exact ⟨Zct (h.own.kept hg (.inr (fun e=>by have:=(h.own.lt _ e).1;omega))) (Nat.le_succ _),h.bel.grown hg h.bel.size (fun k e=>by simp at e;omega)⟩
theorem Pd.first (w:World) (s:ByteArray):Pd w s 0 (.slice none 0 0) [] ((w.alloc (.cells Zaz 60)).alloc (.cells #[.string s,.int .i64 0] 151)):=by
 refine ⟨?_,?_,World.ownsRow_nil _ _ _ _,((Below.refl _ _).alloc (Nat.le_refl _) _).alloc (by simp) _⟩
 ·rw [Below.heap_alloc _ _ _ (by simp)];exact heap_alloc_new w _
 ·have:=heap_alloc_new (w.alloc (.cells Zaz 60)) (.cells #[.string s,.int .i64 0] 151);unfold Cur
  simpa using this
theorem Pd.grown {w w2 w3:World} {s:ByteArray} {q q':Nat} {v v':Value} {ts ts':List (Nat×List UInt8)} (h:Pd w s q v ts w2) (hg:w2.grownBy w3 (some (w.heap.size+1))) (hc:Cur w3 (w.heap.size+1) s q')
 (ho:w3.ownsRow (w.heap.size+1) 58 2 v' ts'.length (Y5 (ts'.map natT))):Pd w s q' v' ts' w3 :=
 ⟨by rw [hg.block _ (Array.getElem?_eq_some_iff.1 h.r).1 (by simp)];exact h.r,hc,ho,h.bel.grown hg h.bel.size (fun k e=>by simp at e;omega)⟩
theorem Zbl (w:World) (x0 x1 x2 x3:Value) (t:TypeId):(w.alloc (.cells #[x0,x1,x2,x3] t)).cell? ⟨w.heap.size,0,none⟩=some x0∧(w.alloc (.cells #[x0,x1,x2,x3] t)).cell? ⟨w.heap.size,1,none⟩=some x1 ∧
 (w.alloc (.cells #[x0,x1,x2,x3] t)).cell? ⟨w.heap.size,2,none⟩=some x2∧(w.alloc (.cells #[x0,x1,x2,x3] t)).cell? ⟨w.heap.size,3,none⟩=some x3:=by
 refine ⟨?_,?_,?_,?_⟩
 ·rw [cell_of_row _ w.heap.size 0 _ t (0,0) (heap_alloc_new w _)];rfl
 ·rw [cell_of_row _ w.heap.size 1 _ t (0,0) (heap_alloc_new w _)];rfl
 ·rw [cell_of_row _ w.heap.size 2 _ t (0,0) (heap_alloc_new w _)];rfl
 ·rw [cell_of_row _ w.heap.size 3 _ t (0,0) (heap_alloc_new w _)];rfl
theorem Y0 {w w':World} {b:Nat} {x0 x1 x2 x3:Value} (h:w.cell? ⟨b,0,none⟩=some x0∧w.cell? ⟨b,1,none⟩=some x1∧w.cell? ⟨b,2,none⟩=some x2∧w.cell? ⟨b,3,none⟩=some x3) (hlt:b<w.heap.size) (hb:Bw w w') :
 w'.cell? ⟨b,0,none⟩=some x0∧w'.cell? ⟨b,1,none⟩=some x1∧w'.cell? ⟨b,2,none⟩=some x2∧w'.cell? ⟨b,3,none⟩=some x3 :=
 ⟨(hb.cell (p:=⟨b,0,none⟩) hlt).trans h.1,(hb.cell (p:=⟨b,1,none⟩) hlt).trans h.2.1,(hb.cell (p:=⟨b,2,none⟩) hlt).trans h.2.2.1,(hb.cell (p:=⟨b,3,none⟩) hlt).trans h.2.2.2⟩
theorem Ji (s:ByteArray) (hs:s.size≤maxLen) (w:World) :
 Calls Tryz.prog 32 #[.string s] w fun e w'=>DOut s.data.toList w e w':=by
 have hlen:s.data.toList.length=s.size:=by simp
 unfold maxLen at hs;by_cases hbig:2000<s.size
 ·have HE:Hid (pdE s.data.toList=5):=by rw [Hid,pdE,if_pos (by rw [hlen];exact hbig)]
  clear hlen;go_enter Tryz.func32,Tryz.ntmps32;go_wp2;exact bodyPost_ret (v:=.tuple #[.agg #[.slice none 0 0,.bool false,.int .i64 0,.string ⟨#[]⟩],.int .i64 5]) (by simp [results,Tryz.results32,go_sem, *]) rfl (Yb HE.out (by decide) ((Below.refl _ _).alloc (Nat.le_refl _) _))
 ·have HR:=Zg4 (w.heap.size+1) s 0 (Nat.zero_le _) (by omega) _ (Pd.first w s).cur;have hl2:s.data.toList.length≤2000:=by rw [hlen];omega
  have hE:pdE s.data.toList=match Zba s.data.toList with
   | none=>4
   | some d=>if Qp d then 5 else 0:=by rw [pdE,if_neg (by rw [hlen];exact hbig)]
  have HN:Hid (∀ w,_):=Zbe s
  have HA:Hid (∀ (q:Nat) (v:Value) (ts:List (Nat×List UInt8)) (w3:World),Hid (Pd w s q v ts w3)→Calls Tryz.prog 68 #[.pointer (some ⟨w.heap.size+1,0,none⟩)] w3 fun e w'=>e=.returned (.bool (decide (q=s.size)))∧Bw w3 w') :=
   fun q v ts w3 h=>Zh9 (w.heap.size+1) s q w3 h.out.cur
  have hrd:=Y8 s.data.toList;unfold Zaf at HR;rw [List.drop_zero] at HR;have hws:((w.alloc (.cells Zaz 60)).alloc (.cells #[.string s,.int .i64 0] 151)).heap.size=w.heap.size+2:=by simp
  cases hr:descOf s.data.toList with
  | none =>
    rw [hr] at hrd HR;have HE:Hid (pdE s.data.toList=4):=by rw [Hid,hE,hrd]
    have HQ:Hid (Calls Tryz.prog 67 #[.pointer (some ⟨w.heap.size+1,0,none⟩)] ((w.alloc (.cells #[.slice none 0 0,.bool false,.int .i64 0,.string ⟨#[]⟩] 60)).alloc (.cells #[.string s,.int .i64 0] 151)) fun e w'=>e=.returned (.tuple #[.agg #[.slice none 0 0,.bool false,.int .i64 0,.string ⟨#[]⟩],.bool false])∧∃ q,Hid (Pd w s q (.slice none 0 0) [] w')) :=
     HR.mono fun e w' ⟨⟨he,q,_,hc⟩,hg⟩=>⟨he,q,(Pd.first w s).grown hg hc (World.ownsRow_nil _ _ _ _)⟩
    clear hE HR hr hlen hrd hws hl2 HA;go_enter Tryz.func32,Tryz.ntmps32;go_wp2_with (first
     | (go_at_call 66;refine ((HN.out) _).mono ?_;rintro e w1 ⟨rfl,rfl⟩)
     | (go_at_call 67;refine (HQ.out).mono ?_;rintro e w2 ⟨rfl,q,hP⟩;obtain ⟨c0,c1,c2,c3,f0,f1,f2,f3,hz,hz'⟩:=hP.out.cells))
    exact bodyPost_ret (v:=.tuple #[.agg #[.slice none 0 0,.bool false,.int .i64 0,.string ⟨#[]⟩],.int .i64 4]) (by simp [results,Tryz.results32,go_sem, *]) rfl (Yb HE.out (by decide) ((hP.out.done _ _ _ _).2.alloc ((hP.out.done _ _ _ _).2.size) _))
  | some p =>
    obtain ⟨⟨ts,x⟩,r⟩:=p;rw [hr] at hrd HR
    have HQ:Hid (Calls Tryz.prog 67 #[.pointer (some ⟨w.heap.size+1,0,none⟩)] ((w.alloc (.cells #[.slice none 0 0,.bool false,.int .i64 0,.string ⟨#[]⟩] 60)).alloc (.cells #[.string s,.int .i64 0] 151)) fun e w'=>∃ v,e=.returned (.tuple #[.agg #[v,.bool (Zag x),.int .i64 (retT x).1,.string ⟨(retT x).2.toArray⟩],.bool true])∧Hid (Pd w s (s.size - r.length) v ts w')) :=
     HR.mono fun e w' ⟨⟨v,he,ho,hc⟩,hg⟩=>⟨v,he,(Pd.first w s).grown hg hc (Zct ho (by rw [hws];omega))⟩
    have hrl:r.length≤s.size→r≠[]→decide (s.size - r.length=s.size)=false:=fun h1 h2=>by
     have:0<r.length:=List.length_pos_iff.2 h2;simp;omega
    cases r with
    | cons c r2 =>
      have HE:Hid (pdE s.data.toList=4):=by rw [Hid,hE,hrd]
      obtain ⟨m,hm⟩:∃ m:Nat,s.size - (c::r2).length=m:=⟨_,rfl⟩;have hne:decide (m=s.size)=false:=by
       rw [← hm];by_cases h0:s.size=0
       ·have:s.data.toList=[]:=List.length_eq_zero_iff.1 (by rw [hlen];exact h0);rw [this] at hr;simp [descOf,Yq] at hr
       ·simp;omega
      rw [hm] at HQ;have HA':Hid (∀ v w3,Hid (Pd w s m v ts w3)→Calls Tryz.prog 68 #[.pointer (some ⟨w.heap.size+1,0,none⟩)] w3 fun e w'=>e=.returned (.bool false)∧Bw w3 w'):=fun v w3 h=>by have:=HA.out m v ts w3 h;rw [hne] at this;exact this
      clear hE HR hr hlen hrd hws hl2 HA hm hne hrl;generalize (retT x).1=rd at *;generalize (⟨(retT x).2.toArray⟩:ByteArray)=rn at *;generalize Zag x=vb at *;go_enter Tryz.func32,Tryz.ntmps32;go_wp2_with (first
       | (go_at_call 66;refine ((HN.out) _).mono ?_;rintro e w1 ⟨rfl,rfl⟩)
       | (go_at_call 67;refine (HQ.out).mono ?_;rintro e w2 ⟨v,rfl,hP0⟩;obtain ⟨ao,cap,rfl⟩:=Zi hP0.out.own;have hP:Hid (Pd w s m (.slice ao ts.length cap) ts (w2.alloc (.cells #[.slice ao ts.length cap,.bool vb,.int .i64 rd,.string rn] 60))):=hP0.out.keep ((Below.refl _ _).alloc (Nat.le_refl _) _);have hz2:=hP0.out.cells.2.2.2.2.2.2.2.2.2)
       | (go_at_call 68;refine (HA'.out _ _ hP).mono ?_;rintro e w3 ⟨rfl,hb3⟩;have hP3:Hid (Pd w s m (.slice ao ts.length cap) ts w3):=hP.out.keep hb3;have hs3:w2.heap.size<w3.heap.size:=sqS hb3;obtain ⟨t0,t1,t2,t3⟩:=Y0 (Zbl w2 _ _ _ _ 60) (by simp) hb3;clear hb3;obtain ⟨d0,d1,d2,d3,g0,g1,g2,g3,hy,hy'⟩:=hP3.out.cells))
      exact bodyPost_ret (v:=.tuple #[.agg #[.slice none 0 0,.bool false,.int .i64 0,.string ⟨#[]⟩],.int .i64 4]) (by simp [results,Tryz.results32,go_sem, *]) rfl (Yb HE.out (by decide) (hP3.out.done _ _ _ _).2)
    | nil =>
      have h0:s.size - ([]:List UInt8).length=s.size:=rfl;rw [h0] at HQ;have HA':Hid (∀ v w3,Hid (Pd w s s.size v ts w3)→Calls Tryz.prog 68 #[.pointer (some ⟨w.heap.size+1,0,none⟩)] w3 fun e w'=>e=.returned (.bool true)∧Bw w3 w'):=fun v w3 h=>by have:=HA.out s.size v ts w3 h;simp only [decide_true] at this;exact this
      have HD:Hid (∀ w,_):=Zb8 (retT x).1 ⟨(retT x).2.toArray⟩
      have HK:Hid (∀ (v:Value) (w4:World),Hid (Pd w s s.size v ts w4)→Calls Tryz.prog 70 #[v,.func (.func 69) #[] #[]] w4 fun e w'=>e=.returned (.bool ((ts.map natT).any Jo))∧Bw w4 w') :=
       fun v w4 h=>Zh3 v (ts.map natT) w4 (own_tys (by rw [List.length_map];exact h.out.own))
      have hLE:Qp (ts,x)=true→pdE s.data.toList=5:=fun h=>by rw [hE,hrd];simp [h]
      have hlg:Qp (ts,x)=(decide (20<ts.length)||decide (255<(retT x).1)||(ts.map natT).any Jo):=rfl;by_cases h20:20<ts.length
      ·have HE:Hid (pdE s.data.toList=5):=hLE (by rw [hlg];simp [h20]);have hdl:decide (20<(ts.length:Int))=true:=by simp;omega
       clear hE HR hr hlen hrd hws hl2 HA hrl h0 hLE hlg HD HK;generalize (retT x).1=rd at *;generalize (⟨(retT x).2.toArray⟩:ByteArray)=rn at *;generalize Zag x=vb at *;go_enter Tryz.func32,Tryz.ntmps32;go_wp2_with (first
        | (go_at_call 66;refine ((HN.out) _).mono ?_;rintro e w1 ⟨rfl,rfl⟩)
        | (go_at_call 67;refine (HQ.out).mono ?_;rintro e w2 ⟨v,rfl,hP0⟩;obtain ⟨ao,cap,rfl⟩:=Zi hP0.out.own;have hP:Hid (Pd w s s.size (.slice ao ts.length cap) ts (w2.alloc (.cells #[.slice ao ts.length cap,.bool vb,.int .i64 rd,.string rn] 60))):=hP0.out.keep ((Below.refl _ _).alloc (Nat.le_refl _) _);have hz2:=hP0.out.cells.2.2.2.2.2.2.2.2.2)
        | (go_at_call 68;refine (HA'.out _ _ hP).mono ?_;rintro e w3 ⟨rfl,hb3⟩;have hP3:Hid (Pd w s s.size (.slice ao ts.length cap) ts w3):=hP.out.keep hb3;have hs3:w2.heap.size<w3.heap.size:=sqS hb3;obtain ⟨t0,t1,t2,t3⟩:=Y0 (Zbl w2 _ _ _ _ 60) (by simp) hb3;clear hb3;obtain ⟨d0,d1,d2,d3,g0,g1,g2,g3,hy,hy'⟩:=hP3.out.cells))
       exact bodyPost_ret (v:=.tuple #[.agg #[.slice none 0 0,.bool false,.int .i64 0,.string ⟨#[]⟩],.int .i64 5]) (by simp [results,Tryz.results32,go_sem, *]) rfl (Yb HE.out (by decide) (hP3.out.done _ _ _ _).2)
      ·have hdl:decide (20<(ts.length:Int))=false:=by simp;omega
       by_cases hdp:255<(retT x).1
       ·have HE:Hid (pdE s.data.toList=5):=hLE (by rw [hlg];simp [hdp]);have hdd:decide ((255:Int)<(((retT x).1:Nat):Int))=true:=by simp;omega
        rw [hdd] at HD;clear hE HR hr hlen hrd hws hl2 HA hrl h0 hLE hlg HK hdd hdp;generalize (retT x).1=rd at *;generalize (⟨(retT x).2.toArray⟩:ByteArray)=rn at *;generalize Zag x=vb at *;go_enter Tryz.func32,Tryz.ntmps32;go_wp2_with (first
         | (go_at_call 66;refine ((HN.out) _).mono ?_;rintro e w1 ⟨rfl,rfl⟩)
         | (go_at_call 67;refine (HQ.out).mono ?_;rintro e w2 ⟨v,rfl,hP0⟩;obtain ⟨ao,cap,rfl⟩:=Zi hP0.out.own;have hP:Hid (Pd w s s.size (.slice ao ts.length cap) ts (w2.alloc (.cells #[.slice ao ts.length cap,.bool vb,.int .i64 rd,.string rn] 60))):=hP0.out.keep ((Below.refl _ _).alloc (Nat.le_refl _) _);have hz2:=hP0.out.cells.2.2.2.2.2.2.2.2.2)
         | (go_at_call 68;refine (HA'.out _ _ hP).mono ?_;rintro e w3 ⟨rfl,hb3⟩;have hP3:Hid (Pd w s s.size (.slice ao ts.length cap) ts w3):=hP.out.keep hb3;have hs3:w2.heap.size<w3.heap.size:=sqS hb3;obtain ⟨t0,t1,t2,t3⟩:=Y0 (Zbl w2 _ _ _ _ 60) (by simp) hb3;clear hb3;obtain ⟨d0,d1,d2,d3,g0,g1,g2,g3,hy,hy'⟩:=hP3.out.cells)
         | (go_at_call 69;refine ((HD.out) _).mono ?_;rintro e w4 ⟨rfl,hb4⟩;have hP4:Hid (Pd w s s.size (.slice ao ts.length cap) ts w4):=hP3.out.keep hb4;have hs4:w2.heap.size<w4.heap.size:=(by have:=hb4.size;omega);obtain ⟨y0,y1,y2,y3⟩:=Y0 ⟨t0,t1,t2,t3⟩ hs3 hb4;clear hb4;obtain ⟨j0,j1,j2,j3,k0,k1,k2,k3,hx,hx'⟩:=hP4.out.cells))
        exact bodyPost_ret (v:=.tuple #[.agg #[.slice none 0 0,.bool false,.int .i64 0,.string ⟨#[]⟩],.int .i64 5]) (by simp [results,Tryz.results32,go_sem, *]) rfl (Yb HE.out (by decide) (hP4.out.done _ _ _ _).2)
       ·have hdd:decide ((255:Int)<(((retT x).1:Nat):Int))=false:=by simp;omega
        rw [hdd] at HD
        cases hany:(ts.map natT).any Jo with
        | true =>
          have HE:Hid (pdE s.data.toList=5):=hLE (by rw [hlg,hany];simp);rw [hany] at HK;clear hE HR hr hlen hrd hws hl2 HA hrl h0 hLE hlg hdd hdp hany;generalize (retT x).1=rd at *;generalize (⟨(retT x).2.toArray⟩:ByteArray)=rn at *;generalize Zag x=vb at *;go_enter Tryz.func32,Tryz.ntmps32;go_wp2_with (first
           | (go_at_call 66;refine ((HN.out) _).mono ?_;rintro e w1 ⟨rfl,rfl⟩)
           | (go_at_call 67;refine (HQ.out).mono ?_;rintro e w2 ⟨v,rfl,hP0⟩;obtain ⟨ao,cap,rfl⟩:=Zi hP0.out.own;have hP:Hid (Pd w s s.size (.slice ao ts.length cap) ts (w2.alloc (.cells #[.slice ao ts.length cap,.bool vb,.int .i64 rd,.string rn] 60))):=hP0.out.keep ((Below.refl _ _).alloc (Nat.le_refl _) _);have hz2:=hP0.out.cells.2.2.2.2.2.2.2.2.2)
           | (go_at_call 68;refine (HA'.out _ _ hP).mono ?_;rintro e w3 ⟨rfl,hb3⟩;have hP3:Hid (Pd w s s.size (.slice ao ts.length cap) ts w3):=hP.out.keep hb3;have hs3:w2.heap.size<w3.heap.size:=sqS hb3;obtain ⟨t0,t1,t2,t3⟩:=Y0 (Zbl w2 _ _ _ _ 60) (by simp) hb3;clear hb3;obtain ⟨d0,d1,d2,d3,g0,g1,g2,g3,hy,hy'⟩:=hP3.out.cells)
           | (go_at_call 69;refine ((HD.out) _).mono ?_;rintro e w4 ⟨rfl,hb4⟩;have hP4:Hid (Pd w s s.size (.slice ao ts.length cap) ts w4):=hP3.out.keep hb4;have hs4:w2.heap.size<w4.heap.size:=(by have:=hb4.size;omega);obtain ⟨y0,y1,y2,y3⟩:=Y0 ⟨t0,t1,t2,t3⟩ hs3 hb4;clear hb4;obtain ⟨j0,j1,j2,j3,k0,k1,k2,k3,hx,hx'⟩:=hP4.out.cells)
           | (go_at_call 70;refine ((HK.out) _ _ hP4).mono ?_;rintro e w5 ⟨rfl,hb5⟩;have hP5:Hid (Pd w s s.size (.slice ao ts.length cap) ts w5):=hP4.out.keep hb5;obtain ⟨z0,z1,z2,z3⟩:=Y0 ⟨y0,y1,y2,y3⟩ hs4 hb5;clear hb5;obtain ⟨l0,l1,l2,l3,m0,m1,m2,m3,hv,hv'⟩:=hP5.out.cells))
          exact bodyPost_ret (v:=.tuple #[.agg #[.slice none 0 0,.bool false,.int .i64 0,.string ⟨#[]⟩],.int .i64 5]) (by simp [results,Tryz.results32,go_sem, *]) rfl (Yb HE.out (by decide) (hP5.out.done _ _ _ _).2)
        | false =>
          have HG:Hid (Qp (ts,x)=false):=by rw [Hid,hlg,hany];simp;omega
          have HO:Hid (∀ (v:Value) (w':World),w'.ownsRow w.heap.size 58 2 v ts.length (Y5 (ts.map natT))→Bw w w'→DOut s.data.toList w (.returned (.tuple #[.agg #[v,.bool (Zag x),.int .i64 (retT x).1,.string ⟨(retT x).2.toArray⟩],.int .i64 0])) w') :=
           fun v w' ho hb=>Zkb hrd hl2 HG.out ho hb
          rw [hany] at HK;clear hE HR hr hlen hrd hws hl2 HA hrl h0 hLE hlg hdd hdp hany HG;generalize (retT x).1=rd at *;generalize (⟨(retT x).2.toArray⟩:ByteArray)=rn at *;generalize Zag x=vb at *;go_enter Tryz.func32,Tryz.ntmps32;go_wp2_with (first
           | (go_at_call 66;refine ((HN.out) _).mono ?_;rintro e w1 ⟨rfl,rfl⟩)
           | (go_at_call 67;refine (HQ.out).mono ?_;rintro e w2 ⟨v,rfl,hP0⟩;obtain ⟨ao,cap,rfl⟩:=Zi hP0.out.own;have hP:Hid (Pd w s s.size (.slice ao ts.length cap) ts (w2.alloc (.cells #[.slice ao ts.length cap,.bool vb,.int .i64 rd,.string rn] 60))):=hP0.out.keep ((Below.refl _ _).alloc (Nat.le_refl _) _);have hz2:=hP0.out.cells.2.2.2.2.2.2.2.2.2)
           | (go_at_call 68;refine (HA'.out _ _ hP).mono ?_;rintro e w3 ⟨rfl,hb3⟩;have hP3:Hid (Pd w s s.size (.slice ao ts.length cap) ts w3):=hP.out.keep hb3;have hs3:w2.heap.size<w3.heap.size:=sqS hb3;obtain ⟨t0,t1,t2,t3⟩:=Y0 (Zbl w2 _ _ _ _ 60) (by simp) hb3;clear hb3;obtain ⟨d0,d1,d2,d3,g0,g1,g2,g3,hy,hy'⟩:=hP3.out.cells)
           | (go_at_call 69;refine ((HD.out) _).mono ?_;rintro e w4 ⟨rfl,hb4⟩;have hP4:Hid (Pd w s s.size (.slice ao ts.length cap) ts w4):=hP3.out.keep hb4;have hs4:w2.heap.size<w4.heap.size:=(by have:=hb4.size;omega);obtain ⟨y0,y1,y2,y3⟩:=Y0 ⟨t0,t1,t2,t3⟩ hs3 hb4;clear hb4;obtain ⟨j0,j1,j2,j3,k0,k1,k2,k3,hx,hx'⟩:=hP4.out.cells)
           | (go_at_call 70;refine ((HK.out) _ _ hP4).mono ?_;rintro e w5 ⟨rfl,hb5⟩;have hP5:Hid (Pd w s s.size (.slice ao ts.length cap) ts w5):=hP4.out.keep hb5;obtain ⟨z0,z1,z2,z3⟩:=Y0 ⟨y0,y1,y2,y3⟩ hs4 hb5;clear hb5;obtain ⟨l0,l1,l2,l3,m0,m1,m2,m3,hv,hv'⟩:=hP5.out.cells))
          exact bodyPost_ret (v:=.tuple #[.agg #[.slice ao ts.length cap,.bool vb,.int .i64 rd,.string rn],.int .i64 0]) (by simp [results,Tryz.results32,go_sem, *]) rfl (HO.out _ _ (hP5.out.done _ _ _ _).1 (hP5.out.done _ _ _ _).2)
theorem Zne (b1 o1 c1 b2 o2 c2:Nat) (ps qs:List (List UInt8)) (w:World) (hl1:ps.length≤c1) (hm1:c1≤maxLen)
 (hc1:∀ k p,ps[k]?=some p→w.cell? ⟨b1,o1+k,none⟩=some (.string ⟨p.toArray⟩)) (hc2:∀ k p,qs[k]?=some p→w.cell? ⟨b2,o2+k,none⟩=some (.string ⟨p.toArray⟩)) :
 Calls Tryz.prog 50 #[.slice (some ⟨b1,o1,none⟩) ps.length c1,.slice (some ⟨b2,o2,none⟩) qs.length c2] w fun e w'=>e=.returned (.bool (decide (ps=qs)))∧∃ n,w'=w.drewN n:=by
 unfold maxLen at hm1;by_cases hlen:ps.length=qs.length
 ·have H1:Hid _:=hc1;have H2:Hid _:=hc2;have hq:((ps.length:Int) == (qs.length:Int))=true:=by rw [beq_iff_eq];omega
  have hle1:ps.length≤qs.length:=by omega
  have hle2:qs.length≤ps.length:=by omega
  have HLEN:Hid _:=hlen;clear hc1 hc2 hlen;go_enter Tryz.func50,Tryz.ntmps50;go_wp2;go_loopw [5] (fun i wr=>∃ k n:Nat,k≤ps.length∧i=.int .i64 k∧wr=w.drewN n∧Hid (ps.take k=qs.take k)) (fun i _=>ps.length - (intOf i).toNat)
  case atStart=>exact ⟨0,0,Nat.zero_le _,rfl,rfl,rfl⟩
  case round =>
   obtain ⟨k,n,hk,rfl,rfl,hr⟩:=hrel;by_cases h1:k<ps.length
   ·have h2:k<qs.length:=by omega
    obtain ⟨p,hp⟩:∃ p,ps[k]?=some p:=⟨_,List.getElem?_eq_getElem h1⟩;obtain ⟨q,hqk⟩:∃ q,qs[k]?=some q:=⟨_,List.getElem?_eq_getElem h2⟩;have g1:=H1.out k p hp;have g2:=H2.out k q hqk;have HS:Hid _:=Znd ps qs k p q hp hqk;have HT:Hid (p=q→ps.take (k+1)=qs.take (k+1)):=fun e=>by
     rw [List.take_add_one,List.take_add_one,hr.out,hp,hqk,e]
    clear hp hqk H1 H2;by_cases e:p=q
    ·have HT2:Hid _:=HT.out e;subst e;clear HT HS hr;go_wp2
     go_quiet (fail)
     go_wp2;go_roundw
     case rel=>exact ⟨k+1,_,by omega,by go_num,rfl,HT2⟩
     case measure=>simp [intOf];omega
    ·have HS2:Hid _:=HS.out e;have hpq:(p == q)=false:=by simpa using e
     clear HT HS hr e;go_wp2
     go_quiet (fail)
     go_wp2;go_ret
     exact ⟨Zb HS2.out.symm,_,World.drewN_drewN ..⟩
   ·have hk':k=ps.length:=by omega
    have HS:Hid _:=same_end ps qs HLEN.out (by have:=hr.out;rw [hk'] at this;exact this);clear hr hk' H1 H2;go_wp2;go_ret
    exact ⟨Zb HS.out.symm,_,rfl⟩
 ·have hq:((ps.length:Int) == (qs.length:Int))=false:=by rw [beq_eq_false_iff_ne];omega
  have HS:Hid (decide (ps=qs)=false):=by simp only [Hid,decide_eq_false_iff_not];intro e;rw [e] at hlen;exact hlen rfl
  clear hlen hc1 hc2;go_enter Tryz.func50,Tryz.ntmps50;go_wp2;go_ret
  exact ⟨Zb HS.out.symm,0,rfl⟩
theorem same_any (v1 v2:Value) (ps qs:List (List UInt8)) (w:World) (h1:IsStrs w v1 ps) (h2:IsStrs w v2 qs) (n1:ps≠[]) (n2:qs≠[]) :
 Calls Tryz.prog 50 #[v1,v2] w fun e w'=>e=.returned (.bool (decide (ps=qs)))∧∃ n,w'=w.drewN n:=by
 obtain ⟨ao,c1,rfl,k1,m1,x1⟩:=h1;obtain ⟨bo,c2,rfl,_,_,x2⟩:=h2;obtain ⟨b1,o1,rfl,_,y1⟩:=x1 n1;obtain ⟨b2,o2,rfl,_,y2⟩:=x2 n2;exact Zne b1 o1 c1 b2 o2 c2 ps qs w k1 m1 y1 y2
theorem J1 (s:ByteArray) (hs:s.size≤maxLen) (w:World) :
 Calls Tryz.prog 172 #[.string s] w fun e w'=>e=.returned (.tuple #[.agg #[.int .i64 (prfT s.data.toList).1,.string ⟨(prfT s.data.toList).2.toArray⟩],.int .i64 (prfE s.data.toList)])∧Bw w w':=by
 have hlen:s.data.toList.length=s.size:=by simp
 have HP:Hid (∀ w,_):=Zhc s hs;have HV:Hid (∀ w,_):=Q0 s hs;have HH:Hid (∀ w,_):=Zbj s 91;have hE:prfE s.data.toList=if s.data.toList.head?=some 91 then parE s.data.toList else if 2000<s.data.toList.length then 5 else if Zl s.data.toList then 0 else 4:=by
  unfold prfE;by_cases h1:s.data.toList.head?=some 91
  ·by_cases h2:2000<s.data.toList.length
   ·rw [if_pos h2,if_pos h1,parE,if_pos h2]
   ·rw [if_neg h2,if_pos h1,if_pos h1]
  ·rw [if_neg h1,if_neg h1]
 have hT:prfT s.data.toList=if s.data.toList.head?=some 91 then parT s.data.toList else if 2000<s.data.toList.length then (0,[]) else if Zl s.data.toList then (0,s.data.toList) else (0,[]):=by
  unfold prfT;by_cases h1:s.data.toList.head?=some 91
  ·by_cases h2:2000<s.data.toList.length
   ·rw [if_pos h2,if_pos h1,parT,parE,if_pos h2];rfl
   ·rw [if_neg h2,if_pos h1,if_pos h1]
  ·rw [if_neg h1,if_neg h1]
 unfold maxLen at hs;by_cases hh:s.data.toList.head?=some 91
 ·have h0:hd s 91=true:=by simp [hd,hh]
  rw [h0] at HH;have HE:Hid (prfE s.data.toList=parE s.data.toList):=by rw [Hid,hE,if_pos hh]
  have HT:Hid (prfT s.data.toList=parT s.data.toList):=by rw [Hid,hT,if_pos hh]
  clear hlen HV hh hE hT h0;generalize prfE s.data.toList=x at *;generalize prfT s.data.toList=t at *;generalize parE s.data.toList=pe at *;generalize parT s.data.toList=pt at *;go_enter Tryz.func172,Tryz.ntmps172;go_wp2_with (first
   | (go_at_call 141;refine ((HH.out) _).mono ?_;rintro e w0 ⟨rfl,rfl⟩)
   | (go_at_call 173;refine ((HP.out) _).mono ?_;rintro e w1 ⟨rfl,hb1⟩;have hr0:=hb1.cell (p:=⟨w.heap.size,0,none⟩) (by simp);have hr1:=hb1.cell (p:=⟨w.heap.size,1,none⟩) (by simp);have hf0:=hb1.frozen (p:=⟨w.heap.size,0,none⟩) (by simp);have hf1:=hb1.frozen (p:=⟨w.heap.size,1,none⟩) (by simp)))
  refine bodyPost_ret (v:=.tuple #[.agg #[.int .i64 pt.1,.string ⟨pt.2.toArray⟩],.int .i64 pe]) (by simp [results,Tryz.results172,go_sem, *]) rfl ⟨?_,?_⟩
  ·rw [HT.out,HE.out]
  ·have hb9:Bw w w1:=sqT hb1;exact (hb9.setCell (Nat.le_refl _) _).setCell (Nat.le_refl _) _
 ·have h0:hd s 91=false:=by simp [hd,hh]
  rw [h0] at HH;by_cases hbig:2000<s.size
  ·have HE:Hid (prfE s.data.toList=5):=by rw [Hid,hE,if_neg hh,if_pos (by rw [hlen];exact hbig)]
   have HT:Hid (prfT s.data.toList=(0,[])):=by rw [Hid,hT,if_neg hh,if_pos (by rw [hlen];exact hbig)]
   clear hlen HV hh hE hT h0 HP;generalize prfE s.data.toList=x at *;generalize prfT s.data.toList=t at *;go_enter Tryz.func172,Tryz.ntmps172;go_wp2_with (go_at_call 141;refine ((HH.out) _).mono ?_;rintro e w0 ⟨rfl,rfl⟩)
   refine bodyPost_ret (v:=.tuple #[.agg #[.int .i64 0,.string ⟨#[]⟩],.int .i64 5]) (by simp [results,Tryz.results172,go_sem, *]) rfl ⟨?_,?_⟩
   ·rw [HT.out,HE.out];rfl
   ·exact (Below.refl _ _).alloc (Nat.le_refl _) _
  ·have hng:¬ 2000<s.data.toList.length:=by rw [hlen];exact hbig
   cases hv:Zl s.data.toList with
   | true =>
     have HE:Hid (prfE s.data.toList=0):=by rw [Hid,hE,if_neg hh,if_neg hng,hv];rfl
     have HT:Hid (prfT s.data.toList=(0,s.data.toList)):=by rw [Hid,hT,if_neg hh,if_neg hng,hv];rfl
     rw [hv] at HV;clear hlen HP hh hng hv hE hT h0;generalize prfE s.data.toList=x at *;generalize prfT s.data.toList=t at *;go_enter Tryz.func172,Tryz.ntmps172;go_wp2_with (first
      | (go_at_call 141;refine ((HH.out) _).mono ?_;rintro e w0 ⟨rfl,rfl⟩)
      | (go_at_call 53;refine ((HV.out) _).mono ?_;rintro e w1 ⟨rfl,hb1⟩;have hr0:=hb1.cell (p:=⟨w.heap.size,0,none⟩) (by simp);have hr1:=hb1.cell (p:=⟨w.heap.size,1,none⟩) (by simp);have hf0:=hb1.frozen (p:=⟨w.heap.size,0,none⟩) (by simp);have hf1:=hb1.frozen (p:=⟨w.heap.size,1,none⟩) (by simp)))
     refine bodyPost_ret (v:=.tuple #[.agg #[.int .i64 0,.string s],.int .i64 0]) (by simp [results,Tryz.results172,go_sem, *]) rfl ⟨?_,?_⟩
     ·rw [HT.out,HE.out];rfl
     ·have hb9:Bw w w1:=sqT hb1;exact (hb9.setCell (Nat.le_refl _) _).setCell (Nat.le_refl _) _
   | false =>
     have HE:Hid (prfE s.data.toList=4):=by rw [Hid,hE,if_neg hh,if_neg hng,hv];rfl
     have HT:Hid (prfT s.data.toList=(0,[])):=by rw [Hid,hT,if_neg hh,if_neg hng,hv];rfl
     rw [hv] at HV;clear hlen HP hh hng hv hE hT h0;generalize prfE s.data.toList=x at *;generalize prfT s.data.toList=t at *;go_enter Tryz.func172,Tryz.ntmps172;go_wp2_with (first
      | (go_at_call 141;refine ((HH.out) _).mono ?_;rintro e w0 ⟨rfl,rfl⟩)
      | (go_at_call 53;refine ((HV.out) _).mono ?_;rintro e w1 ⟨rfl,hb1⟩;have hr0:=hb1.cell (p:=⟨w.heap.size,0,none⟩) (by simp);have hr1:=hb1.cell (p:=⟨w.heap.size,1,none⟩) (by simp);have hf0:=hb1.frozen (p:=⟨w.heap.size,0,none⟩) (by simp);have hf1:=hb1.frozen (p:=⟨w.heap.size,1,none⟩) (by simp)))
     refine bodyPost_ret (v:=.tuple #[.agg #[.int .i64 0,.string ⟨#[]⟩],.int .i64 4]) (by simp [results,Tryz.results172,go_sem, *]) rfl ⟨?_,?_⟩
     ·rw [HT.out,HE.out];rfl
     ·have hb9:Bw w w1:=sqT hb1;exact (hb9.setCell (Nat.le_refl _) _).setCell (Nat.le_refl _) _
def cutL (c:UInt8):List UInt8→List (List UInt8)
 | []=>[[]]
 | x::l=>if x=c then []::cutL c l else match cutL c l with
   | []=>[[x]]
   | p::r=>(x::p)::r
theorem Z1 (c:UInt8) (l:List UInt8):cutL c l≠[]:=by
 cases l with
 | nil=>simp [cutL]
 | cons x l =>
   unfold cutL
   split
   ·simp
   ·split <;> simp
theorem J8 (c:UInt8) (l:List UInt8) (h:c ∉ l):cutL c l=[l]:=by
 induction l with
 | nil=>rfl
 | cons x l ih =>
   have hc:x≠c:=fun e=>h (by simp [e]);have:=ih (fun m=>h (List.mem_cons_of_mem _ m));simp [cutL,hc,this]
theorem Zbn (c:UInt8) (a b:List UInt8) (h:c ∉ a):cutL c (a++c::b)=a::cutL c b:=by
 induction a with
 | nil=>simp [cutL]
 | cons x l ih =>
   have hc:x≠c:=fun e=>h (by simp [e]);have:=ih (fun m=>h (List.mem_cons_of_mem _ m));simp [cutL,hc,this]
theorem Ya (c:UInt8) (l:List UInt8):(cutL c l).length≤l.length+1:=by
 induction l with
 | nil=>simp [cutL]
 | cons x l ih =>
   have hn:=Z1 c l;unfold cutL
   split
   ·simp;omega
   ·split
    ·contradiction
    ·rename_i p ps e
     rw [e] at ih;simp at ih ⊢;omega
theorem Zmx (c:UInt8) (s:ByteArray) (f k:Nat) (hf:f≤k) (hlt:k<s.size) (h:c ∉ (s.data.toList.drop f).take (k - f)) (e:(((s[k]).toNat:Int) == (c.toNat:Int))=false) :
 c ∉ (s.data.toList.drop f).take (k+1 - f):=by
 have hl:k - f<(s.data.toList.drop f).length:=by rw [List.length_drop];simp;omega
 rw [show k+1 - f=(k - f)+1 by omega,List.take_succ_eq_append_getElem hl];intro m;rcases List.mem_append.1 m with m|m
 ·exact h m
 ·have m2:=List.mem_singleton.1 m;rw [List.getElem_drop] at m2;have e3:s.data.toList[f+(k - f)]?=some s[k]:=by rw [show f+(k - f)=k by omega];exact Lib.Pa.at_eq s k hlt
  rw [List.getElem?_eq_getElem (by simp;omega)] at e3;have e4:s[k]=c:=by rw [m2];exact (Option.some.inj e3).symm
  rw [e4] at e;simp at e
theorem Zo6 (c:UInt8) (s:ByteArray) (f k:Nat) (hf:f≤k) (hlt:k<s.size) (e:(((s[k]).toNat:Int) == (c.toNat:Int))=true) :
 s.data.toList.drop f=(s.data.toList.drop f).take (k - f)++c::s.data.toList.drop (k+1):=by
 have h1:s.data.toList.drop f=(s.data.toList.drop f).take (k - f)++(s.data.toList.drop f).drop (k - f):=(List.take_append_drop _ _).symm;have h2:(s.data.toList.drop f).drop (k - f)=s.data.toList.drop k:=by rw [List.drop_drop];congr 1;omega
 have h3:s.data.toList.drop k=c::s.data.toList.drop (k+1):=by
  rw [List.drop_eq_getElem_cons (by simpa using hlt)]
  congr 1
  have e3:=Lib.Pa.at_eq s k hlt;rw [List.getElem?_eq_getElem (by simpa using hlt)] at e3;rw [Option.some.inj e3];apply UInt8.toNat_inj.1;have:=beq_iff_eq.1 e;exact (by omega:(s[k]).toNat=c.toNat)
 rw [h2,h3] at h1;exact h1
theorem Zh (c:UInt8) (s:ByteArray) (hs:s.size≤1099511627776) (w:World) :
 Calls Tryz.prog 45 #[.string s,.int .u8 c.toNat] w fun e w'=>∃ v,e=.returned v∧w'.ownsRow w.heap.size 9 1 v (cutL c s.data.toList).length ((cutL c s.data.toList).map strV)∧Bw w w':=by
 obtain ⟨i0,hi,hz0,hz1,hz2⟩:=info_parts Tryz.info9;have HL:Hid _:=Ya c s.data.toList;have HZ:Hid (s.data.toList.length=s.size):=by simp [Hid]
 go_enter Tryz.func45,Tryz.ntmps45;go_wp2
 go_loopw [5,6,7] (fun v fr i wr=>∃ (done:List (List UInt8)) (f k:Nat),fr=.int .i64 f∧i=.int .i64 k∧f≤k∧k≤s.size ∧
  wr.ownsRow w.heap.size 9 1 v done.length (done.map strV)∧Bw w wr∧Hid (c ∉ (s.data.toList.drop f).take (k - f))∧Hid (done++cutL c (s.data.toList.drop f)=cutL c s.data.toList))
  (fun _ _ i _=>s.size - (intOf i).toNat)
 case atStart=>exact ⟨[],0,0,rfl,rfl,Nat.le_refl _,Nat.zero_le _,World.ownsRow_nil _ _ _ _,Below.refl _ _,by simp [Hid],by simp [Hid]⟩
 case round =>
  obtain ⟨done,f,k,rfl,rfl,hfk,hks,hown,hbel,hfree,hp⟩:=hrel;have hbs:=hbel.size;have hn1:=Z1 c (s.data.toList.drop f);have hn2:1≤(cutL c (s.data.toList.drop f)).length:=by
   cases e:cutL c (s.data.toList.drop f) with
   | nil=>exact absurd e hn1
   | cons a b=>simp
  have hdl:done.length+1≤s.size+1:=by have:=HL.out;rw [← hp.out,HZ.out,List.length_append] at this;omega
  clear hn1 hn2;by_cases hlt:k<s.size
  ·cases he:(((s[k]).toNat:Int) == (c.toNat:Int)) with
   | true =>
     have HC:Hid _:=Zo6 c s f k hfk hlt he;have hd:done++[(s.extract f k).data.toList]++cutL c (s.data.toList.drop (k+1))=cutL c s.data.toList:=by
      rw [← hp.out,Lib.extract_data]
      conv=>rhs;rw [HC.out,Zbn c _ _ hfree.out]
      simp
     have HD:Hid _:=hd;clear hd HC hp hfree;have hex:(s.extract f k).size≤s.size:=by simp;omega
     go_wp2_with (at_builtin;refine wpList_append_own _ rfl _ _ 22 rfl w.heap.size 9 i0 (.string ⟨#[]⟩) 1 16 Tryz.underlying22 hi hz0 hz1 hz2 rfl (by decide) _ _ _ rfl (hown.alloc _) ⟨wr.heap.size,0,none⟩ 1 1 [.string (s.extract f k)] rfl rfl ?c1 ?c2 ?c3 ?c4 ?c5 ?_)
     case c1=>exact cell_one_new _ _ _
     case c2=>intro u hu;simp at hu;subst hu;rfl
     case c3=>unfold maxLen;omega
     case c4=>omega
     case c5=>simp;omega
     ·intro v' w1 hown' hgrow _;have R:=Zab hbs hown hbel hown' hgrow;clear hown' hgrow hown;go_wp2;go_roundw
      case rel=>exact ⟨done++[(s.extract f k).data.toList],k+1,k+1,by go_num,by go_num,Nat.le_refl _,by omega,R.1,R.2,by simp [Hid],HD.out⟩
      case measure=>simp [intOf];omega
   | false =>
     have HF:Hid _:=Zmx c s f k hfk hlt hfree.out he;clear hfree;go_wp2;go_roundw
     case rel=>exact ⟨done,f,k+1,rfl,by go_num,by omega,by omega,hown,hbel,HF,hp⟩
     case measure=>simp [intOf];omega
  ·have hk':k=s.size:=by omega
   have hd:done++[(s.extract f s.size).data.toList]=cutL c s.data.toList:=by
    rw [← hp.out,Lib.extract_to_end]
    congr 1
    have:c ∉ s.data.toList.drop f:=by
     have:=hfree.out;rw [hk',List.take_of_length_le (by rw [List.length_drop,HZ.out];omega)] at this;exact this
    rw [J8 c _ this]
   have HD:Hid _:=hd;subst hk';clear hd hp hfree;go_wp2_with (at_builtin;refine wpList_append_own _ rfl _ _ 22 rfl w.heap.size 9 i0 (.string ⟨#[]⟩) 1 16 Tryz.underlying22 hi hz0 hz1 hz2 rfl (by decide) _ _ _ rfl (hown.alloc _) ⟨wr.heap.size,0,none⟩ 1 1 [.string (s.extract f s.size)] rfl rfl ?d1 ?d2 ?d3 ?d4 ?d5 ?_)
   case d1=>exact cell_one_new _ _ _
   case d2=>intro u hu;simp at hu;subst hu;rfl
   case d3=>unfold maxLen;omega
   case d4=>omega
   case d5=>simp;omega
   ·intro v' w1 hown' hgrow _;have R:=Zab hbs hown hbel hown' hgrow;rw [HD.out] at R;clear hown' hgrow hown;go_wp2;go_ret
    exact ⟨_,rfl,R⟩
end Go.Proofs.YtfbhjfpkhofifaaGreatDoor
