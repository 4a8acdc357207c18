import Derived.Test.YtmafkabjjibcbaaGreatItA
set_option maxHeartbeats 16000000
set_option maxRecDepth 100000
namespace Go.Proofs.YtmafkabjjibcbaaGreat
open Go.RowKit Go.Maps
theorem isTop_c (m:HM) (a:Option Addr) (n s:Nat) (W:World):Calls Tryz.prog 56 #[.agg #[.string m.nm,.string m.ds,.int .i64 m.fl,.int .i64 m.lo,.int .i64 m.st,.slice a n s]] W fun e w'=>e=.returned (.bool (topB m))∧Bw W w':=by
 unfold topB
 obtain ⟨mn,md,mf,ml,ms,mk,mx⟩:=m
 simp only
 cases h1:(bits .and .i64 mf 1 != 0)
 case' true=>cases h2:(bits .and .i64 mf 8 == 0)
 case' true.true=>cases h3:(mn.toList == [60,105,110,105,116,62])
 all_goals
  go_enter Tryz.func56,Tryz.ntmps56
  go_wp2
 all_goals go_ret
 all_goals exact ⟨retB (by simp [*]),sqR⟩
theorem isIro_c (m:HM) (a:Option Addr) (n s:Nat) (W:World):Calls Tryz.prog 57 #[.agg #[.string m.nm,.string m.ds,.int .i64 m.fl,.int .i64 m.lo,.int .i64 m.st,.slice a n s]] W fun e w'=>e=.returned (.bool (iroB m))∧Bw W w':=by
 unfold iroB
 go_enter Tryz.func57,Tryz.ntmps57
 go_wp2
 all_goals go_ret
 all_goals exact ⟨retB (by simp),sqR⟩
theorem Zgp {b:Nat} {ps:List Plc} {W:World} (h:WAt b ps W) (x:Int) (hx:¬ itE ps x=0) (hl:ps.length≤300):Calls Tryz.prog 54 #[.pointer (some ⟨b,0,none⟩),.int .i64 x] W fun e w'=>e=.returned (.tuple #[.slice none 0 0,.int .i64 (itE ps x)])∧Bw W w':=by
 rcases Zl ps x with ⟨h1,h2⟩|⟨k,q,rfl,hq,h1⟩
 ·have e:itE ps x=3:=by rw [itE,h1]
  rw [e]
  have HC:Hid (Calls Tryz.prog 48 #[.pointer (some ⟨b,0,none⟩),.int .i64 x] W fun e w'=>e=.returned (.tuple #[.slice none 0 0,.int .i64 3])∧w'=W):=by
   obtain ⟨N,mb,vp,pv,h⟩:=h
   exact Zdj N b mb ps vp pv x W h h2
  clear h h2 hx e
  go_enter Tryz.func54,Tryz.ntmps54
  go_wp2_with (go_at_call 48;refine HC.out.mono ?_;rintro e w9 ⟨rfl,hw9⟩;rw [hw9];clear hw9 w9)
  exact bodyPost_ret (results_tmp2 rfl _ _ _) rfl ⟨rfl,Below.refl _ _⟩
 ·have hf:ifcI ps (k:Int)=true:=by
   cases hf:ifcI ps (k:Int) with
   | true=>rfl
   | false=>exact absurd (by rw [itE,h1];simp [hf]) hx
  have e:itE ps (k:Int)=23:=by rw [itE,h1];simp [hf]
  rw [e]
  have HC:Hid (Calls Tryz.prog 48 #[.pointer (some ⟨b,0,none⟩),.int .i64 (k:Int)] W fun e w'=>∃ v,e=.returned (.tuple #[v,.int .i64 0])∧w'.ownsRow W.heap.size 3 1 v q.cl.length (q.cl.map numV)∧Bw W w'):=by
   obtain ⟨N,mb,vp,pv,h⟩:=h
   exact Ji N b mb ps vp pv k q W h hq hl
  have HI:Hid (∀ w,Bw W w→Calls Tryz.prog 116 #[.pointer (some ⟨b,0,none⟩),.int .i64 (k:Int)] w fun e w'=>e=.returned (.bool true)∧Bw w w'):=fun w hb=>by
   have:=Qm (h.below hb) (k:Int)
   rw [hf] at this
   exact this
  clear h hq hx e hf
  go_enter Tryz.func54,Tryz.ntmps54
  go_wp2_with (first
   | (go_at_call 48;refine HC.out.mono ?_;rintro e w1 ⟨v,rfl,ho,hb⟩;have B1:Hid (Bw W w1):=hb;clear ho hb HC)
   | (go_at_call 116;refine (HI.out _ B1.out).mono ?_;rintro e w2 ⟨rfl,hb⟩;have B2:Hid (Bw W w2):=Zb B1.out hb;clear hb HI))
  exact bodyPost_ret (results_tmp2 rfl _ _ _) rfl ⟨rfl,B2.out⟩
theorem Zew {b:Nat} {ps:List Plc} {W:World} (h:WAt b ps W) (k:Nat) (q:Plc) (hq:ps[k]?=some q) (hf:ifcI ps (k:Int)=false) (hl:ps.length≤300):Calls Tryz.prog 54 #[.pointer (some ⟨b,0,none⟩),.int .i64 (k:Int)] W fun e w'=>∃ v,e=.returned (.tuple #[v,.int .i64 0])∧w'.ownsRow W.heap.size 3 1 v q.cl.length (q.cl.map numV)∧Bw W w':=by
 have HC:Hid (Calls Tryz.prog 48 #[.pointer (some ⟨b,0,none⟩),.int .i64 (k:Int)] W fun e w'=>∃ v,e=.returned (.tuple #[v,.int .i64 0])∧w'.ownsRow W.heap.size 3 1 v q.cl.length (q.cl.map numV)∧Bw W w'):=by
  obtain ⟨N,mb,vp,pv,h⟩:=h
  exact Ji N b mb ps vp pv k q W h hq hl
 have HI:Hid (∀ w,Bw W w→Calls Tryz.prog 116 #[.pointer (some ⟨b,0,none⟩),.int .i64 (k:Int)] w fun e w'=>e=.returned (.bool false)∧Bw w w'):=fun w hb=>by
  have:=Qm (h.below hb) (k:Int)
  rw [hf] at this
  exact this
 obtain ⟨K,hK⟩:∃ K,q.cl.length=K:=⟨_,rfl⟩
 obtain ⟨C,hC⟩:∃ C,q.cl.map numV=C:=⟨_,rfl⟩
 rw [hK,hC] at HC ⊢
 clear h hq hf hK hC
 go_enter Tryz.func54,Tryz.ntmps54
 go_wp2_with (first
  | (go_at_call 48;refine HC.out.mono ?_;rintro e w1 ⟨v,rfl,ho,hb⟩;have O1:Hid (w1.ownsRow W.heap.size 3 1 v K C):=ho;have B1:Hid (Bw W w1):=hb;clear ho hb HC)
  | (go_at_call 116;refine (HI.out _ B1.out).mono ?_;rintro e w2 ⟨rfl,hb⟩;have O2:Hid (w2.ownsRow W.heap.size 3 1 v K C):=Zd O1.out hb;have B2:Hid (Bw W w2):=Zb B1.out hb;clear hb HI O1))
 exact bodyPost_ret (results_tmp2 rfl _ _ _) rfl ⟨_,rfl,O2.out,B2.out⟩
theorem callITop (vs:Array Value) (w:World):(callFunc 56 vs).run Tryz.prog w=.ok (.enter 56 vs) w:=by simp [go_sem]
theorem callIro (vs:Array Value) (w:World):(callFunc 57 vs).run Tryz.prog w=.ok (.enter 57 vs) w:=by simp [go_sem]
theorem Zfb (g:Nat) (eg:∀ args w,(callFunc g args).run Tryz.prog w=.ok (.enter g args) w) (p:HM→Bool) (hp:∀ (m:HM) (a:Option Addr) (n s:Nat) (w:World),Calls Tryz.prog g #[.agg #[.string m.nm,.string m.ds,.int .i64 m.fl,.int .i64 m.lo,.int .i64 m.st,.slice a n s]] w fun e w'=>e=.returned (.bool (p m))∧Bw w w') (W:World) (b k:Nat) (q:Plc) (hms:q.c.ms.length≤1000000)
 (HCL:Hid (Calls Tryz.prog 42 #[.pointer (some ⟨b,0,none⟩),.int .i64 (k:Int)] W fun e w'=>(∃ vi vm qm,e=.returned (.tuple #[.agg #[.string q.c.nm,.string q.c.su,vi,.int .i64 q.c.fl,.int .i64 q.c.ld,vm],.int .i64 0])∧OwnC w' W.heap.size vi q.c.ni q.c.xi vm qm∧qm.map Prod.fst=q.c.ms)∧Bw W w')) :
 Calls Tryz.prog 55 #[.pointer (some ⟨b,0,none⟩),.int .i64 (k:Int),.func (.func g) #[] #[]] W fun e w'=>(∃ v,e=.returned v∧w'.ownsRow W.heap.size 38 2 v (rtK p (k:Int) q.c.ms 0).length (Zf (rtK p (k:Int) q.c.ms 0)))∧Bw W w':=by
 obtain ⟨i0,hi0,hz0,hz1,hz2⟩:=info_parts Tryz.hinfoD
 have HP:Hid (∀ (m:HM) (a:Option Addr) (n s:Nat) (w:World),Calls Tryz.prog g #[.agg #[.string m.nm,.string m.ds,.int .i64 m.fl,.int .i64 m.lo,.int .i64 m.st,.slice a n s]] w fun e w'=>e=.returned (.bool (p m))∧Bw w w'):=hp
 clear hp
 go_enter Tryz.func55,Tryz.ntmps55
 go_wp2_with (first
  | (go_at_call 42;refine HCL.out.mono ?_;rintro e w2 ⟨⟨vi,vm,qm,rfl,hoc,hqm⟩,hb⟩;obtain ⟨ia,ic,rfl⟩:=ownv hoc.ifs;obtain ⟨ma,mc,rfl⟩:=ownv hoc.ms;have OM:Hid (w2.ownsRow W.heap.size 87 6 (.slice ma qm.length mc) qm.length (Z0 qm)):=hoc.ms;have HQM:Hid (qm.map Prod.fst=q.c.ms):=hqm;have HCOD:Hid (∀ p∈qm,∃ a c,p.2=.slice a p.1.n c):=(fun p hp=>ownv (hoc.cod p hp));have B2:Hid (Bw W w2):=hb;clear hb hoc hqm HCL))
 obtain ⟨K,hK⟩:∃ K,qm.length=K:=⟨_,rfl⟩
 have HK:Hid (qm.length=K):=hK
 have hKb:K≤1000000:=by
  have:=congrArg List.length HQM.out
  rw [List.length_map,hK] at this
  omega
 have HKm:Hid (q.c.ms.length=K):=by rw [Hid,← HQM.out,List.length_map,hK]
 rw [hK] at OM ⊢
 obtain ⟨U,hU⟩:∃ U,U=w2.alloc (.cells #[.string q.c.nm,.string q.c.su,.slice ia q.c.ni ic,.int .i64 q.c.fl,.int .i64 q.c.ld,.slice ma K mc] 73):=⟨_,rfl⟩
 have BU:Hid (Bw W U):=by rw [hU];exact B2.out.alloc B2.out.size _
 have OMU:Hid (U.ownsRow W.heap.size 87 6 (.slice ma K mc) K (Z0 qm)):=by rw [hU];exact OM.out.alloc _
 rw [← hU]
 clear hU hK OM hms B2
 go_loopw [9,21] (fun sv kv wr=>∃ (i:Nat),kv=.int .i64 i∧i≤K∧Hid (wr.ownsRow U.heap.size 38 2 sv (rtK p (k:Int) (q.c.ms.take i) 0).length (Zf (rtK p (k:Int) (q.c.ms.take i) 0)))∧Hid (Bw U wr)) (fun _ kv _=>K - (intOf kv).toNat)
 case atStart=>exact ⟨0,rfl,Nat.zero_le _,World.ownsRow_nil _ _ _ _,Below.refl _ _⟩
 case round =>
  obtain ⟨i,rfl,hi,hO,hB⟩:=hrel
  by_cases hlt:i<K
  ·have hiI:(i:Int)<(K:Int):=by omega
   obtain ⟨⟨m,um⟩,hm⟩:∃ m,qm[i]?=some m:=⟨_,List.getElem?_eq_getElem (by rw [HK.out];exact hlt)⟩
   have hmm:q.c.ms[i]?=some m:=by rw [← HQM.out,List.getElem?_map,hm];rfl
   obtain ⟨gm,cm,hform⟩:=Go.Joins.ownsRow_form OMU.out (by omega)
   injection hform with hca _ hcc
   subst hca hcc
   obtain ⟨ua,uc,hum⟩:=HCOD.out (m,um) (List.mem_of_getElem? hm)
   simp only at hum
   subst hum
   have hcell:=fun j (hj:j<6)=>((Zd OMU.out hB.out).cellAt (i * 6+j) (by have:=Xo qm;have:=HK.out;omega)).trans (Zy qm i (m,_) hm j hj)
   have c0:=hcell 0 (by omega)
   have c1:=hcell 1 (by omega)
   have c2:=hcell 2 (by omega)
   have c3:=hcell 3 (by omega)
   have c4:=hcell 4 (by omega)
   have c5:=hcell 5 (by omega)
   simp only [hmC,List.getElem?_cons_zero,List.getElem?_cons_succ,Nat.add_zero] at c0 c1 c2 c3 c4 c5
   have hst:rtK p (k:Int) (q.c.ms.take (i+1)) 0=rtK p (k:Int) (q.c.ms.take i) 0++(if p m then [((k:Int),(i:Int))] else []):=by
    have h1:(q.c.ms.take i).length=i:=by rw [List.length_take,HKm.out];omega
    rw [List.take_add_one,hmm,Option.toList_some,Zbd,h1,Nat.zero_add]
   have HC:Hid (∀ w:World,Calls Tryz.prog g #[.agg #[.string m.nm,.string m.ds,.int .i64 m.fl,.int .i64 m.lo,.int .i64 m.st,.slice ua m.n uc]] w fun e w'=>e=.returned (.bool (p m))∧Bw w w'):=fun w=>HP.out m ua m.n uc w
   have hal:(rtK p (k:Int) (q.c.ms.take i) 0).length≤1000000:=by
    have:=Xg p (k:Int) (q.c.ms.take i) 0
    rw [List.length_take] at this
    omega
   obtain ⟨L,hL⟩:∃ L,rtK p (k:Int) (q.c.ms.take i) 0=L:=⟨_,rfl⟩
   rw [hL] at hst hal hO
   obtain ⟨va,vn,rfl⟩:=ownv hO.out
   have HST:Hid _:=hst
   generalize p m=pm at *
   clear hm hmm hcell hL hst
   cases pm with
   | false =>
     have hst2:rtK p (k:Int) (q.c.ms.take (i+1)) 0=L:=by rw [HST.out];simp
     have HST2:Hid _:=hst2
     clear HST hst2
     go_wp2_with (go_at_fn g;refine (HC.out _).mono ?_;rintro e w3 ⟨rfl,hb⟩;have B3:Hid (Bw U w3):=Zb (hB.out.alloc hB.out.size _) hb;have O3:Hid (w3.ownsRow U.heap.size 38 2 (.slice va L.length vn) L.length (Zf L)):=Zd (hO.out.alloc _) hb;clear hb HC)
     refine ⟨⟨i+1,by simp,by omega,?_,B3⟩,by simp [intOf];omega⟩
     rw [HST2.out];exact O3
   | true =>
     have hst2:rtK p (k:Int) (q.c.ms.take (i+1)) 0=L++[((k:Int),(i:Int))]:=by rw [HST.out,if_pos rfl]
     have HST2:Hid _:=hst2
     clear HST hst2
     go_wp2_with (first
      | (go_at_fn g;refine (HC.out _).mono ?_;rintro e w3 ⟨rfl,hb⟩;have B3:Hid (Bw U w3):=Zb (hB.out.alloc hB.out.size _) hb;have O3:Hid (w3.ownsRow U.heap.size 38 2 (.slice va L.length vn) L.length (Zf L)):=Zd (hO.out.alloc _) hb;clear hb HC)
      | (at_builtin;refine wpList_append_own _ rfl _ _ 30 rfl U.heap.size 38 i0 (.agg #[.int .i64 0,.int .i64 0]) 2 16 Tryz.underlying30 hi0 hz0 hz1 hz2 rfl (by decide) (.slice va L.length vn) L.length (Zf L) rfl (O3.out.alloc _) ⟨w3.heap.size,0,none⟩ 1 1 [.int .i64 (k:Int),.int .i64 (i:Int)] rfl rfl ?c1 ?c2 ?c3 ?c4 ?c5 ?_))
     case c1=>intro jj u hj;rw [addr_add];match jj,hj with
      | 0,hj=>simp at hj;subst hj;simp [go_sem]
      | 1,hj=>simp at hj;subst hj;simp [go_sem]
      | (jj+2),hj=>simp at hj
     case c2=>intro u hu;simp at hu;rcases hu with rfl|rfl <;> rfl
     case c3=>unfold maxLen;omega
     case c4=>omega
     case c5=>have:=B3.out.size;simp;omega
     intro v' w4 hown hgrow _
     obtain ⟨va2,vn2,rfl⟩:=ownv hown
     have B4:Hid (Bw U w4):=by
      have hb1:Bw U (w3.alloc (.cells #[.int .i64 (k:Int),.int .i64 (i:Int)] 38)):=B3.out.alloc B3.out.size _
      refine hb1.grown hgrow hb1.size (fun x hx=>?_)
      have:=(O3.out.lt x hx).1
      omega
     have O4:Hid (w4.ownsRow U.heap.size 38 2 (.slice va2 (L.length+1) vn2) (L++[((k:Int),(i:Int))]).length (Zf (L++[((k:Int),(i:Int))]))):=by
      rw [Hid,List.length_append,Yw];exact hown
     go_wp2
     refine ⟨⟨i+1,by simp,by omega,?_,B4⟩,by simp [intOf];omega⟩
     rw [HST2.out];exact O4
  ·have e:i=K:=by omega
   subst e
   have HE:Hid (rtK p (k:Int) (q.c.ms.take i) 0=rtK p (k:Int) q.c.ms 0):=by rw [Hid,List.take_of_length_le (by rw [HKm.out];exact Nat.le_refl _)]
   rw [HE.out] at hO
   obtain ⟨va,vn,rfl⟩:=ownv hO.out
   go_wp2
   exact bodyPost_ret (results_tmp rfl _ _ _) rfl ⟨⟨_,rfl,Go.Joins.ownsRow_le hO.out BU.out.size⟩,BU.out.trans (hB.out.mono BU.out.size)⟩
theorem Zi1 {b:Nat} {ps:List Plc} {W:World} (h:WAt b ps W) (hW:WI ps) (k:Nat) (hk:k<ps.length):Calls Tryz.prog 55 #[.pointer (some ⟨b,0,none⟩),.int .i64 (k:Int),.func (.func 56) #[] #[]] W fun e w'=>(∃ v,e=.returned v∧w'.ownsRow W.heap.size 38 2 v (rtK topB (k:Int) (mtK ps k) 0).length (Zf (rtK topB (k:Int) (mtK ps k) 0)))∧Bw W w':=by
 have hq:ps[k]?=some ps[k]:=List.getElem?_eq_getElem hk
 have e:mtK ps k=ps[k].c.ms:=by rw [mtK,hq]
 rw [e]
 refine Zfb 56 callITop topB isTop_c W b k ps[k] (hW.pb _ (List.mem_of_getElem? hq)).ms ?_
 have:=Zmd h hW.pb (k:Int)
 rw [Z5,hq] at this
 exact this
theorem Zi2 {b:Nat} {ps:List Plc} {W:World} (h:WAt b ps W) (hW:WI ps) (k:Nat) (hk:k<ps.length):Calls Tryz.prog 55 #[.pointer (some ⟨b,0,none⟩),.int .i64 (k:Int),.func (.func 57) #[] #[]] W fun e w'=>(∃ v,e=.returned v∧w'.ownsRow W.heap.size 38 2 v (rtK iroB (k:Int) (mtK ps k) 0).length (Zf (rtK iroB (k:Int) (mtK ps k) 0)))∧Bw W w':=by
 have hq:ps[k]?=some ps[k]:=List.getElem?_eq_getElem hk
 have e:mtK ps k=ps[k].c.ms:=by rw [mtK,hq]
 rw [e]
 refine Zfb 57 callIro iroB isIro_c W b k ps[k] (hW.pb _ (List.mem_of_getElem? hq)).ms ?_
 have:=Zmd h hW.pb (k:Int)
 rw [Z5,hq] at this
 exact this
theorem Zkd {b:Nat} {ps:List Plc} {W:World} (h:WAt b ps W) (hW:WI ps) (k:Nat) (q:Plc) (hq:ps[k]?=some q) (hf:ifcI ps (k:Int)=false):Calls Tryz.prog 12 #[.pointer (some ⟨b,0,none⟩),.int .i64 (k:Int)] W fun e w'=>(∃ v,e=.returned (.tuple #[v,.int .i64 0])∧w'.ownsRow W.heap.size 38 2 v (rtsP ps q).length (Zf (rtsP ps q)))∧Bw W w':=by
 obtain ⟨i0,hi0,hz0,hz1,hz2⟩:=info_parts Tryz.hinfoD
 have hk:=(List.getElem?_eq_some_iff.1 hq).1
 have hcl:=hW.wo.cl k (nd q) (by rw [List.getElem?_map,hq];rfl)
 have HCB:Hid (∀ i∈q.cl,i<ps.length):=fun i hi=>by
  have:=(hcl.2 i hi).1
  omega
 have hKb:q.cl.length≤300:=by
  have:=List.Nodup.length_le_of_subset hcl.1 (l₂:=List.range ps.length) (fun i hi=>List.mem_range.2 (HCB.out i hi))
  rw [List.length_range] at this
  have h2:=hW.hi
  have h3:q.cl.length≤ps.length:=this
  omega
 have hmt:∀ j,(mtK ps j).length≤1000000:=fun j=>by
  rw [mtK]
  split
  ·rename_i p hp;exact (hW.pb p (List.mem_of_getElem? hp)).ms
  ·exact Nat.zero_le _
 have HRL:Hid (∀ l:List Nat,(rtK topB 0 (mtK ps 0) 0++l.flatMap fun k:Nat=>rtK iroB (k:Int) (mtK ps k) 0).length≤1000000+l.length * 1000000):=fun l=>by
  have hf:∀ l:List Nat,(l.flatMap fun k:Nat=>rtK iroB (k:Int) (mtK ps k) 0).length≤l.length * 1000000:=by
   intro l
   induction l with
   | nil=>exact Nat.zero_le _
   | cons x r ih =>
     rw [List.flatMap_cons,List.length_append,List.length_cons]
     have h1:=Xg iroB (x:Int) (mtK ps x) 0
     have h2:=hmt x
     omega
  rw [List.length_append]
  have h1:=Xg topB 0 (mtK ps 0) 0
  have h2:=hmt 0
  have h3:=hf l
  omega
 have HMT:Hid (∀ j,(mtK ps j).length≤1000000):=hmt
 have HCO:Hid (Calls Tryz.prog 54 #[.pointer (some ⟨b,0,none⟩),.int .i64 (k:Int)] W fun e w'=>∃ v,e=.returned (.tuple #[v,.int .i64 0])∧w'.ownsRow W.heap.size 3 1 v q.cl.length (q.cl.map numV)∧Bw W w'):=Zew h k q hq hf hW.hi
 have HTP:Hid (∀ w,Bw W w→Calls Tryz.prog 55 #[.pointer (some ⟨b,0,none⟩),.int .i64 0,.func (.func 56) #[] #[]] w fun e w'=>(∃ v,e=.returned v∧w'.ownsRow w.heap.size 38 2 v (rtK topB 0 (mtK ps 0) 0).length (Zf (rtK topB 0 (mtK ps 0) 0)))∧Bw w w'):=fun w hb=>Zi1 (h.below hb) hW 0 (by omega)
 have HIR:Hid (∀ (i:Nat) w,i<ps.length→Bw W w→Calls Tryz.prog 55 #[.pointer (some ⟨b,0,none⟩),.int .i64 (i:Int),.func (.func 57) #[] #[]] w fun e w'=>(∃ v,e=.returned v∧w'.ownsRow w.heap.size 38 2 v (rtK iroB (i:Int) (mtK ps i) 0).length (Zf (rtK iroB (i:Int) (mtK ps i) 0)))∧Bw w w'):=fun i w hi hb=>Zi2 (h.below hb) hW i hi
 obtain ⟨K,hK⟩:∃ K,q.cl.length=K:=⟨_,rfl⟩
 have HK:Hid (q.cl.length=K):=hK
 rw [hK] at hKb
 clear h hW hq hf hcl hmt hK hk
 go_enter Tryz.func12,Tryz.ntmps12
 go_wp2_with (first
  | (go_at_call 54;refine HCO.out.mono ?_;rintro e w1 ⟨v,rfl,ho,hb⟩;rw [HK.out] at ho;obtain ⟨ca,cc,rfl⟩:=ownv ho;have O1:Hid (w1.ownsRow W.heap.size 3 1 (.slice ca K cc) K (q.cl.map numV)):=ho;have B1:Hid (Bw W w1):=hb;clear ho hb HCO)
  | (go_at_call 55;refine (HTP.out _ B1.out).mono ?_;rintro e w2 ⟨⟨v,rfl,ho⟩,hb⟩;have R2:Hid (w2.ownsRow w1.heap.size 38 2 v (rtK topB 0 (mtK ps 0) 0).length (Zf (rtK topB 0 (mtK ps 0) 0))):=ho;have B2:Hid (Bw w1 w2):=hb;clear ho hb HTP))
 go_loopw [8,24] (fun sv kv wr=>∃ (j:Nat),kv=.int .i64 j∧j≤K∧Hid (wr.ownsRow w1.heap.size 38 2 sv (rtK topB 0 (mtK ps 0) 0++(q.cl.take j).flatMap fun k:Nat=>rtK iroB (k:Int) (mtK ps k) 0).length (Zf (rtK topB 0 (mtK ps 0) 0++(q.cl.take j).flatMap fun k:Nat=>rtK iroB (k:Int) (mtK ps k) 0)))∧Hid (Bw w1 wr)) (fun _ kv _=>K - (intOf kv).toNat)
 case atStart=>exact ⟨0,rfl,Nat.zero_le _,(by have:=R2.out;rw [Hid,List.take_zero,List.flatMap_nil,List.append_nil];exact this),B2⟩
 case round =>
  clear R2 B2
  obtain ⟨j,rfl,hj,hO,hB⟩:=hrel
  by_cases hlt:j<K
  ·have hjI:(j:Int)<(K:Int):=by omega
   have hjl:j<q.cl.length:=by rw [HK.out];exact hlt
   obtain ⟨i,hi⟩:∃ i,q.cl[j]?=some i:=⟨_,List.getElem?_eq_getElem hjl⟩
   obtain ⟨g,c2,hform⟩:=Go.Joins.ownsRow_form O1.out (by omega)
   have hce:w1.cell? ⟨g,j,none⟩=some (.int .i64 (i:Int)):=by
    have hrow:=O1.out
    rw [hform] at hrow
    rw [hrow.cellAt j (by omega),List.getElem?_map,hi];rfl
   injection hform with hca _ hcc
   subst hca hcc
   have hgl:g<w1.heap.size:=World.block_lt_of_cell? w1 _ hce
   have hcr:=(hB.out.cell (p:=⟨g,j,none⟩) hgl).trans hce
   have HC:=HIR.out i wr (HCB.out i (List.mem_of_getElem? hi)) (Zb B1.out hB.out)
   have hst:(rtK topB 0 (mtK ps 0) 0++(q.cl.take (j+1)).flatMap fun k:Nat=>rtK iroB (k:Int) (mtK ps k) 0)=(rtK topB 0 (mtK ps 0) 0++(q.cl.take j).flatMap fun k:Nat=>rtK iroB (k:Int) (mtK ps k) 0)++rtK iroB (i:Int) (mtK ps i) 0:=by
    rw [List.take_add_one,hi,Option.toList_some,List.flatMap_append,List.flatMap_cons,List.flatMap_nil,List.append_nil,List.append_assoc]
   have hal:(rtK topB 0 (mtK ps 0) 0++(q.cl.take j).flatMap fun k:Nat=>rtK iroB (k:Int) (mtK ps k) 0).length≤301000000:=by
    have:=HRL.out (q.cl.take j)
    rw [List.length_take] at this
    omega
   have hnl:(rtK iroB (i:Int) (mtK ps i) 0).length≤1000000:=Nat.le_trans (Xg _ _ _ _) (HMT.out i)
   obtain ⟨L,hL⟩:∃ L,(rtK topB 0 (mtK ps 0) 0++(q.cl.take j).flatMap fun k:Nat=>rtK iroB (k:Int) (mtK ps k) 0)=L:=⟨_,rfl⟩
   obtain ⟨M,hM⟩:∃ M,rtK iroB (i:Int) (mtK ps i) 0=M:=⟨_,rfl⟩
   rw [hL] at hst hal hO
   rw [hM] at hst hnl HC
   have HST:Hid ((rtK topB 0 (mtK ps 0) 0++(q.cl.take (j+1)).flatMap fun k:Nat=>rtK iroB (k:Int) (mtK ps k) 0)=L++M):=hst
   have HCH:Hid (Calls Tryz.prog 55 #[.pointer (some ⟨b,0,none⟩),.int .i64 (i:Int),.func (.func 57) #[] #[]] wr fun e w'=>(∃ v,e=.returned v∧w'.ownsRow wr.heap.size 38 2 v M.length (Zf M))∧Bw wr w'):=HC
   obtain ⟨va,vn,rfl⟩:=ownv hO.out
   clear hce hi hjl hL hM hst HC
   go_wp2_with (first
    | (go_at_call 55;refine HCH.out.mono ?_;rintro e w3 ⟨⟨vx,rfl,ho⟩,hb⟩;have X3:Hid (w3.ownsRow wr.heap.size 38 2 vx M.length (Zf M)):=ho;have B3:Hid (Bw w1 w3):=Zb hB.out hb;have O3:Hid (w3.ownsRow w1.heap.size 38 2 (.slice va L.length vn) L.length (Zf L)):=Zd hO.out hb;clear ho hb HCH)
    | (at_builtin;refine Yx rfl _ _ 30 rfl w1.heap.size 38 i0 (.agg #[.int .i64 0,.int .i64 0]) 2 16 Tryz.underlying30 hi0 hz0 hz1 hz2 rfl (by decide) (.slice va L.length vn) L.length (Zf L) rfl O3.out vx M.length (Zf M) rfl (.inl (Ya X3.out)) (Zf6 M) ?c1 ?c2 ?c3 ?_))
   case c1=>unfold maxLen;omega
   case c2=>omega
   case c3=>exact B3.out.size
   intro v' w4 hown hgrow
   obtain ⟨va2,vn2,rfl⟩:=ownv hown
   have B4:Hid (Bw w1 w4):=by
    refine B3.out.grown hgrow B3.out.size (fun x hx=>?_)
    have:=(O3.out.lt x hx).1
    omega
   have O4:Hid (w4.ownsRow w1.heap.size 38 2 (.slice va2 (L.length+M.length) vn2) (L++M).length (Zf (L++M))):=by
    rw [Hid,List.length_append,Yw];exact hown
   go_wp2
   refine ⟨⟨j+1,by simp,by omega,?_,B4⟩,by simp [intOf];omega⟩
   rw [HST.out];exact O4
  ·have e:j=K:=by omega
   subst e
   have HE:Hid ((rtK topB 0 (mtK ps 0) 0++(q.cl.take j).flatMap fun k:Nat=>rtK iroB (k:Int) (mtK ps k) 0)=rtsP ps q):=by rw [Hid,List.take_of_length_le (by rw [HK.out];exact Nat.le_refl _),rtsP]
   rw [HE.out] at hO
   obtain ⟨va,vn,rfl⟩:=ownv hO.out
   go_wp2
   exact bodyPost_ret (results_tmp2 rfl _ _ _) rfl ⟨⟨_,rfl,Go.Joins.ownsRow_le hO.out B1.out.size⟩,B1.out.trans (hB.out.mono B1.out.size)⟩
theorem Zhr {b:Nat} {ps:List Plc} {W:World} (h:WAt b ps W) (hW:WI ps) (x:Int) (hx:¬ itE ps x=0):Calls Tryz.prog 12 #[.pointer (some ⟨b,0,none⟩),.int .i64 x] W fun e w'=>e=.returned (.tuple #[.slice none 0 0,.int .i64 (itE ps x)])∧Bw W w':=by
 have HCO:Hid (Calls Tryz.prog 54 #[.pointer (some ⟨b,0,none⟩),.int .i64 x] W fun e w'=>e=.returned (.tuple #[.slice none 0 0,.int .i64 (itE ps x)])∧Bw W w'):=Zgp h x hx hW.hi
 generalize itE ps x=E at *
 have hE:(E == 0)=false:=by simp [hx]
 clear h hW
 go_enter Tryz.func12,Tryz.ntmps12
 go_wp2_with (go_at_call 54;refine HCO.out.mono ?_;rintro e w1 ⟨rfl,hb⟩;have B1:Hid (Bw W w1):=hb;clear hb HCO)
 exact bodyPost_ret (results_tmp2 rfl _ _ _) rfl ⟨rfl,B1.out⟩
theorem Zke {b:Nat} {ps:List Plc} {W:World} (h:WAt b ps W) (hW:WI ps) (x:Int):Calls Tryz.prog 12 #[.pointer (some ⟨b,0,none⟩),.int .i64 x] W fun e w'=>(∃ v,e=.returned (.tuple #[v,.int .i64 (itE ps x)])∧w'.ownsRow W.heap.size 38 2 v (rtsR ps x).length (Zf (rtsR ps x)))∧Bw W w':=by
 rcases Zec ps x with ⟨h0,k,q,rfl,hq,hf,hr⟩|⟨hr,he⟩
 ·rw [h0,hr]
  exact Zkd h hW k q hq hf
 ·rw [hr]
  exact (Zhr h hW x (by rcases he with e|e <;> rw [e] <;> decide)).mono fun e w' zz=>⟨⟨_,zz.1,World.ownsRow_nil _ _ _ _⟩,zz.2⟩
theorem rw8 {w:World} {n:Nat} {t:TypeId} {a0 a1 a2 a3 a4 a5 a6 a7:Value} (h:w.heap[n]?=some (.cells #[a0,a1,a2,a3,a4,a5,a6,a7] t (0,0))):w.cell? ⟨n,0,none⟩=some a0∧w.cell? ⟨n,1,none⟩=some a1∧w.cell? ⟨n,2,none⟩=some a2∧w.cell? ⟨n,3,none⟩=some a3∧w.cell? ⟨n,4,none⟩=some a4∧w.cell? ⟨n,5,none⟩=some a5∧w.cell? ⟨n,6,none⟩=some a6∧w.cell? ⟨n,7,none⟩=some a7∧(∀ k,w.frozen? ⟨n,k,none⟩=false)∧n<w.heap.size :=
 ⟨(cell_of_row w n 0 _ _ _ h).trans rfl,(cell_of_row w n 1 _ _ _ h).trans rfl,(cell_of_row w n 2 _ _ _ h).trans rfl,(cell_of_row w n 3 _ _ _ h).trans rfl,(cell_of_row w n 4 _ _ _ h).trans rfl,(cell_of_row w n 5 _ _ _ h).trans rfl,(cell_of_row w n 6 _ _ _ h).trans rfl,(cell_of_row w n 7 _ _ _ h).trans rfl,fun k=>frozen_of_row w n k _ _ h,(Array.getElem?_eq_some_iff.1 h).1⟩
theorem kp8 {V w:World} {N n:Nat} {t:TypeId} {a0 a1 a2 a3 a4 a5 a6 a7:Value} (hb:Below N V w) (hn:n<N) (h:V.heap[n]?=some (.cells #[a0,a1,a2,a3,a4,a5,a6,a7] t (0,0))):Hid (w.heap[n]?=some (.cells #[a0,a1,a2,a3,a4,a5,a6,a7] t (0,0)))∧w.cell? ⟨n,0,none⟩=some a0∧w.cell? ⟨n,1,none⟩=some a1∧w.cell? ⟨n,2,none⟩=some a2∧w.cell? ⟨n,3,none⟩=some a3∧w.cell? ⟨n,4,none⟩=some a4∧w.cell? ⟨n,5,none⟩=some a5∧w.cell? ⟨n,6,none⟩=some a6∧w.cell? ⟨n,7,none⟩=some a7∧(∀ k,w.frozen? ⟨n,k,none⟩=false)∧n<w.heap.size∧¬ n=w.heap.size:=by
 have h2:=(hb.block n hn).trans h
 obtain ⟨c0,c1,c2,c3,c4,c5,c6,c7,f,l⟩:=rw8 h2
 exact ⟨h2,c0,c1,c2,c3,c4,c5,c6,c7,f,l,by omega⟩
theorem st8 {w:World} {n:Nat} {t:TypeId} {a0 a1 a2 a3 a4 a5 a6 a7:Value} (h:w.heap[n]?=some (.cells #[a0,a1,a2,a3,a4,a5,a6,a7] t (0,0))) (v2 v3 v4:Value):(((w.setCell ⟨n,2,none⟩ v2).setCell ⟨n,3,none⟩ v3).setCell ⟨n,4,none⟩ v4).heap[n]?=some (.cells #[a0,a1,v2,v3,v4,a5,a6,a7] t (0,0)):=by
 have h0:=Go.Joins.block_setCell (i:=2) h v2
 have h1:=Go.Joins.block_setCell (i:=3) h0 v3
 have h2:=Go.Joins.block_setCell (i:=4) h1 v4
 exact h2.trans (by simp)
theorem ot8 {w:World} {m k:Nat} {v2 v3 v4:Value} (h:¬ k=m):(((w.setCell ⟨m,2,none⟩ v2).setCell ⟨m,3,none⟩ v3).setCell ⟨m,4,none⟩ v4).heap[k]?=w.heap[k]?:=by
 rw [heap_setCell_other _ _ _ _ (by simp;omega),heap_setCell_other _ _ _ _ (by simp;omega),heap_setCell_other _ _ _ _ (by simp;omega)]
theorem chI_n (W:World) (b:Nat) (r c i m1 m2 ee:Int) (HC:Hid (∀ w,Bw W w→Calls Tryz.prog 28 #[.pointer (some ⟨b,0,none⟩),.int .i64 r,.agg #[.int .i64 c,.int .i64 i]] w fun e w'=>e=.returned (.tuple #[.agg #[.int .i64 m1,.int .i64 m2],.int .i64 ee])∧Bw w w')):Calls Tryz.prog 327 #[.agg #[],.pointer (some ⟨b,0,none⟩),.int .i64 r,.agg #[.int .i64 c,.int .i64 i]] W fun e w'=>e=.returned (.tuple #[.agg #[.int .i64 m1,.int .i64 m2],.int .i64 ee])∧Bw W w':=by
 go_enter Tryz.func327,Tryz.ntmps327
 go_wp2_with (first
  | (go_at_call 28;refine (HC.out _ sqR).mono ?_;rintro e w1 ⟨rfl,hb⟩;have zzd:=kp2 (n:=W.heap.size+1+1) hb;(try clear zzB zz0 zz1 zzf zzL zzN);obtain ⟨zzB,zz0,zz1,zzf,zzL,zzN⟩:=zzd;have B1:Hid (Bw W w1):=Zb sqR hb;clear hb HC))
 exact bodyPost_ret (v:=.tuple #[.agg #[.int .i64 m1,.int .i64 m2],.int .i64 ee]) (by simp [results,Tryz.results327,go_sem, *]) rfl ⟨rfl,(sqE B1)⟩
theorem seI_n (W:World) (b:Nat) (r c i m1 m2 ee:Int) (HC:Hid (∀ w,Bw W w→Calls Tryz.prog 327 #[.agg #[],.pointer (some ⟨b,0,none⟩),.int .i64 r,.agg #[.int .i64 c,.int .i64 i]] w fun e w'=>e=.returned (.tuple #[.agg #[.int .i64 m1,.int .i64 m2],.int .i64 ee])∧Bw w w')):Calls Tryz.prog 60 #[.pointer (some ⟨b,0,none⟩),.int .i64 r,.agg #[.int .i64 c,.int .i64 i]] W fun e w'=>e=.returned (.tuple #[.agg #[.int .i64 m1,.int .i64 m2],.int .i64 ee])∧Bw W w':=by
 go_enter Tryz.func60,Tryz.ntmps60
 go_wp2_with (first
  | (go_at_call 327;refine (HC.out _ sqR).mono ?_;rintro e w1 ⟨rfl,hb⟩;have zzd:=kp2 (n:=W.heap.size+1) hb (by first|omega|(simp;try omega)) (Zg (Za _ _ (by simp)));(try clear zzB zz0 zz1 zzf zzL zzN);obtain ⟨zzB,zz0,zz1,zzf,zzL,zzN⟩:=zzd;have B1:Hid (Bw W w1):=Zb sqR hb;clear hb HC))
 exact bodyPost_ret (v:=.tuple #[.agg #[.int .i64 m1,.int .i64 m2],.int .i64 ee]) (by simp [results,Tryz.results60,go_sem, *]) rfl ⟨rfl,(sqE B1)⟩
theorem seI_c {b:Nat} {ps:List Plc} {W:World} (h:WAt b ps W) (hW:WI ps) (r c i:Int):Calls Tryz.prog 60 #[.pointer (some ⟨b,0,none⟩),.int .i64 r,.agg #[.int .i64 c,.int .i64 i]] W fun e w'=>e=.returned (.tuple #[.agg #[.int .i64 (itfI ps r (c,i)).1.1,.int .i64 (itfI ps r (c,i)).1.2],.int .i64 (itfI ps r (c,i)).2])∧Bw W w' :=
 seI_n W b r c i _ _ _ (fun w hb=>chI_n w b r c i _ _ _ (fun _ hb2=>itf_c ((h.below hb).below hb2) hW r c i))
theorem chV_n (W:World) (b:Nat) (r c i m1 m2 ee:Int) (HC:Hid (∀ w,Bw W w→Calls Tryz.prog 25 #[.pointer (some ⟨b,0,none⟩),.int .i64 r,.agg #[.int .i64 c,.int .i64 i]] w fun e w'=>e=.returned (.tuple #[.agg #[.int .i64 m1,.int .i64 m2],.int .i64 ee])∧Bw w w')):Calls Tryz.prog 328 #[.agg #[],.pointer (some ⟨b,0,none⟩),.int .i64 r,.agg #[.int .i64 c,.int .i64 i]] W fun e w'=>e=.returned (.tuple #[.agg #[.int .i64 m1,.int .i64 m2],.int .i64 ee])∧Bw W w':=by
 go_enter Tryz.func328,Tryz.ntmps328
 go_wp2_with (first
  | (go_at_call 25;refine (HC.out _ sqR).mono ?_;rintro e w1 ⟨rfl,hb⟩;have zzd:=kp2 (n:=W.heap.size+1+1) hb;(try clear zzB zz0 zz1 zzf zzL zzN);obtain ⟨zzB,zz0,zz1,zzf,zzL,zzN⟩:=zzd;have B1:Hid (Bw W w1):=Zb sqR hb;clear hb HC))
 exact bodyPost_ret (v:=.tuple #[.agg #[.int .i64 m1,.int .i64 m2],.int .i64 ee]) (by simp [results,Tryz.results328,go_sem, *]) rfl ⟨rfl,(sqE B1)⟩
theorem seV_n (W:World) (b:Nat) (r c i m1 m2 ee:Int) (HC:Hid (∀ w,Bw W w→Calls Tryz.prog 328 #[.agg #[],.pointer (some ⟨b,0,none⟩),.int .i64 r,.agg #[.int .i64 c,.int .i64 i]] w fun e w'=>e=.returned (.tuple #[.agg #[.int .i64 m1,.int .i64 m2],.int .i64 ee])∧Bw w w')):Calls Tryz.prog 115 #[.pointer (some ⟨b,0,none⟩),.int .i64 r,.agg #[.int .i64 c,.int .i64 i]] W fun e w'=>e=.returned (.tuple #[.agg #[.int .i64 m1,.int .i64 m2],.int .i64 ee])∧Bw W w':=by
 go_enter Tryz.func115,Tryz.ntmps115
 go_wp2_with (first
  | (go_at_call 328;refine (HC.out _ sqR).mono ?_;rintro e w1 ⟨rfl,hb⟩;have zzd:=kp2 (n:=W.heap.size+1) hb (by first|omega|(simp;try omega)) (Zg (Za _ _ (by simp)));(try clear zzB zz0 zz1 zzf zzL zzN);obtain ⟨zzB,zz0,zz1,zzf,zzL,zzN⟩:=zzd;have B1:Hid (Bw W w1):=Zb sqR hb;clear hb HC))
 exact bodyPost_ret (v:=.tuple #[.agg #[.int .i64 m1,.int .i64 m2],.int .i64 ee]) (by simp [results,Tryz.results115,go_sem, *]) rfl ⟨rfl,(sqE B1)⟩
theorem seV_c {b:Nat} {ps:List Plc} {W:World} (h:WAt b ps W) (hW:WI ps) (r c i:Int):Calls Tryz.prog 115 #[.pointer (some ⟨b,0,none⟩),.int .i64 r,.agg #[.int .i64 c,.int .i64 i]] W fun e w'=>e=.returned (.tuple #[.agg #[.int .i64 (virI ps r (c,i)).1.1,.int .i64 (virI ps r (c,i)).1.2],.int .i64 (virI ps r (c,i)).2])∧Bw W w' :=
 seV_n W b r c i _ _ _ (fun w hb=>chV_n w b r c i _ _ _ (fun _ hb2=>vir_c ((h.below hb).below hb2) hW r c i))
theorem Zl3 (W:World) (b:Nat) (r c i a1 a2 e1 b1 b2 e2:Int) (HI:Hid (∀ w,Bw W w→Calls Tryz.prog 60 #[.pointer (some ⟨b,0,none⟩),.int .i64 r,.agg #[.int .i64 c,.int .i64 i]] w fun e w'=>e=.returned (.tuple #[.agg #[.int .i64 a1,.int .i64 a2],.int .i64 e1])∧Bw w w')) (HV:Hid (∀ w,Bw W w→Calls Tryz.prog 115 #[.pointer (some ⟨b,0,none⟩),.int .i64 r,.agg #[.int .i64 c,.int .i64 i]] w fun e w'=>e=.returned (.tuple #[.agg #[.int .i64 b1,.int .i64 b2],.int .i64 e2])∧Bw w w')):Calls Tryz.prog 53 #[.pointer (some ⟨b,0,none⟩),.int .i64 r,.agg #[.int .i64 c,.int .i64 i]] W fun e w'=>e=.returned (.agg #[.int .i64 c,.int .i64 i,.int .i64 a1,.int .i64 a2,.int .i64 e1,.int .i64 b1,.int .i64 b2,.int .i64 e2])∧Bw W w':=by
 have BB:Hid (Bw W W):=Below.refl _ _
 go_enter Tryz.func53,Tryz.ntmps53
 go_wp2_with (first
  | (go_at_call 60;refine (HI.out _ (sqE BB)).mono ?_;rintro e w1 ⟨rfl,hb⟩;have mmd:=kp2 (n:=W.heap.size) hb;(try clear mmB mm0 mm1 mmf mmL mmN);obtain ⟨mmB,mm0,mm1,mmf,mmL,mmN⟩:=mmd;have rrd:=kp8 (n:=W.heap.size+1) hb (by first|omega|(simp;try omega)) (Zg (Za _ _ (by simp)));(try clear rrB rr0 rr1 rr2 rr3 rr4 rr5 rr6 rr7 rrf rrL rrN);obtain ⟨rrB,rr0,rr1,rr2,rr3,rr4,rr5,rr6,rr7,rrf,rrL,rrN⟩:=rrd;have eed:=kp8 (n:=W.heap.size+1+1) hb (by first|omega|(simp;try omega)) (Za _ _ (by simp));(try clear eeB ee0 ee1 ee2 ee3 ee4 ee5 ee6 ee7 eef eeL eeN);obtain ⟨eeB,ee0,ee1,ee2,ee3,ee4,ee5,ee6,ee7,eef,eeL,eeN⟩:=eed;have BB2:Bw W w1:=Zb (sqE BB) hb;clear BB;have BB:Hid (Bw W w1):=BB2;clear BB2 hb HI)
  | (go_at_call 115;refine (HV.out _ (sqE BB)).mono ?_;rintro e w2 ⟨rfl,hb⟩;have rrd:=kp8 (n:=W.heap.size+1) hb (by first|omega|(simp;try omega)) ((ot8 (by omega)).trans rrB.out);(try clear rrB rr0 rr1 rr2 rr3 rr4 rr5 rr6 rr7 rrf rrL rrN);obtain ⟨rrB,rr0,rr1,rr2,rr3,rr4,rr5,rr6,rr7,rrf,rrL,rrN⟩:=rrd;have eed:=kp8 (n:=W.heap.size+1+1) hb (by first|omega|(simp;try omega)) (st8 eeB.out _ _ _);(try clear eeB ee0 ee1 ee2 ee3 ee4 ee5 ee6 ee7 eef eeL eeN);obtain ⟨eeB,ee0,ee1,ee2,ee3,ee4,ee5,ee6,ee7,eef,eeL,eeN⟩:=eed;have BB2:Bw W w2:=Zb (sqE BB) hb;clear BB;have BB:Hid (Bw W w2):=BB2;clear BB2 hb HV))
 exact bodyPost_ret (v:=.agg #[.int .i64 c,.int .i64 i,.int .i64 a1,.int .i64 a2,.int .i64 e1,.int .i64 b1,.int .i64 b2,.int .i64 e2]) (by simp [results,Tryz.results53,go_sem, *]) rfl ⟨rfl,(sqE BB)⟩
theorem Zl4 {b:Nat} {ps:List Plc} {W:World} (h:WAt b ps W) (hW:WI ps) (r c i:Int):Calls Tryz.prog 53 #[.pointer (some ⟨b,0,none⟩),.int .i64 r,.agg #[.int .i64 c,.int .i64 i]] W fun e w'=>e=.returned (entP ps r (c,i)).agg∧Bw W w' :=
 Zl3 W b r c i _ _ _ _ _ _ (fun _ hb=>seI_c (h.below hb) hW r c i) (fun _ hb=>seV_c (h.below hb) hW r c i)
theorem Tryz.hinfoE:(Tryz.prog.info? 40).map (fun i=>(i.zero,i.size,i.bytes))=some (some (.agg #[.int .i64 0,.int .i64 0,.int .i64 0,.int .i64 0,.int .i64 0,.int .i64 0,.int .i64 0,.int .i64 0]),8,64):=by kernel_rfl
theorem Zb1 {w:World} {N T n s:Nat} {v:Value} {xs:List Value} (h:w.ownsRow N T s v n xs) (hn:0<n):∃ g cap,v=.slice (some ⟨g,0,none⟩) n cap∧N≤g∧g<w.heap.size∧∀ (j:Nat) (u:Value),xs[j]?=some u→w.cell? ⟨g,j,none⟩=some u:=by
 have hr:=Ya h
 rcases h.2 with ⟨_,e⟩|⟨g,cap,cur,e1,e2,e3,e4⟩
 ·omega
 ·subst e1
  refine ⟨g,cap,rfl,e2,(Array.getElem?_eq_some_iff.1 e3).1,fun j u hj=>?_⟩
  rcases hr.val with ⟨e,_⟩|⟨bk,o,cap',e,_,_,_,h4⟩
  ·cases e
  ·injection e with ea _ _
   injection ea with ea
   injection ea with e5 e6 _
   subst e5 e6
   have:=h4 j u hj
   rwa [Nat.zero_add] at this
theorem Zj9 (r1 r2 m1 m2 e v1 v2 f:Int) (W:World):Calls Tryz.prog 22 #[.agg #[.int .i64 r1,.int .i64 r2,.int .i64 m1,.int .i64 m2,.int .i64 e,.int .i64 v1,.int .i64 v2,.int .i64 f],.agg #[.int .i64 r1,.int .i64 r2,.int .i64 m1,.int .i64 m2,.int .i64 e,.int .i64 v1,.int .i64 v2,.int .i64 f]] W fun e w'=>e=.returned (.bool true)∧Bw W w':=by
 have SI:Hid (∀ (a1 a2:Int) (w:World),Calls Tryz.prog 27 #[.agg #[.int .i64 a1,.int .i64 a2],.agg #[.int .i64 a1,.int .i64 a2]] w fun e w'=>e=.returned (.bool true)∧Bw w w'):=fun a1 a2 w=>(Zdu (a1,a2) (a1,a2) w).mono fun e w' zz=>⟨by rw [zz.1];simp,zz.2⟩
 have BB:Hid (Bw W W):=Below.refl _ _
 have q0:W.heap.size≤W.heap.size:=Nat.le_refl _
 go_enter Tryz.func22,Tryz.ntmps22
 go_wp2_with (first
  | (go_at_call 27;refine (SI.out _ _ _).mono ?_;clear q0;rintro e w1 ⟨rfl,hb⟩;have aad:=kp8 (n:=W.heap.size) hb (by first|omega|(simp;try omega)) (Zg (Zo _ _));(try clear aaB aa0 aa1 aa2 aa3 aa4 aa5 aa6 aa7 aaf aaL aaN);obtain ⟨aaB,aa0,aa1,aa2,aa3,aa4,aa5,aa6,aa7,aaf,aaL,aaN⟩:=aad;have bbd:=kp8 (n:=W.heap.size+1) hb (by first|omega|(simp;try omega)) (Za _ _ (by simp));(try clear bbB bb0 bb1 bb2 bb3 bb4 bb5 bb6 bb7 bbf bbL bbN);obtain ⟨bbB,bb0,bb1,bb2,bb3,bb4,bb5,bb6,bb7,bbf,bbL,bbN⟩:=bbd;have BB2:Bw W w1:=Zb (sqE BB) hb;clear BB;have BB:Hid (Bw W w1):=BB2;clear BB2;clear hb)
  | (go_at_call 27;refine (SI.out _ _ _).mono ?_;rintro e w2 ⟨rfl,hb⟩;have aad:=kp8 (n:=W.heap.size) hb (by first|omega|(simp;try omega)) (aaB.out);(try clear aaB aa0 aa1 aa2 aa3 aa4 aa5 aa6 aa7 aaf aaL aaN);obtain ⟨aaB,aa0,aa1,aa2,aa3,aa4,aa5,aa6,aa7,aaf,aaL,aaN⟩:=aad;have bbd:=kp8 (n:=W.heap.size+1) hb (by first|omega|(simp;try omega)) (bbB.out);(try clear bbB bb0 bb1 bb2 bb3 bb4 bb5 bb6 bb7 bbf bbL bbN);obtain ⟨bbB,bb0,bb1,bb2,bb3,bb4,bb5,bb6,bb7,bbf,bbL,bbN⟩:=bbd;have BB2:Bw W w2:=Zb (sqE BB) hb;clear BB;have BB:Hid (Bw W w2):=BB2;clear BB2;clear hb))
 all_goals go_ret
 all_goals exact ⟨retB (by simp),BB.out⟩
theorem has10c (f:Int):hasI f 10=(hasI f 2||hasI f 8):=by
 have e10:bits .and .i64 f 10=IntKind.wrap .i64 (((BitVec.ofInt 64 f).toNat &&& 10:Nat):Int):=rfl
 have e2:bits .and .i64 f 2=IntKind.wrap .i64 (((BitVec.ofInt 64 f).toNat &&& 2:Nat):Int):=rfl
 have e8:bits .and .i64 f 8=IntKind.wrap .i64 (((BitVec.ofInt 64 f).toNat &&& 8:Nat):Int):=rfl
 have h:(BitVec.ofInt 64 f).toNat &&& 10=((BitVec.ofInt 64 f).toNat &&& 2) ||| ((BitVec.ofInt 64 f).toNat &&& 8):=by
  rw [← Nat.and_or_distrib_left];rfl
 unfold hasI
 rw [e10,e2,e8,h]
 have h2:(BitVec.ofInt 64 f).toNat &&& 2≤2:=Nat.and_le_right
 have h2':((BitVec.ofInt 64 f).toNat &&& 2) &&& 2=(BitVec.ofInt 64 f).toNat &&& 2:=by rw [Nat.and_assoc,Nat.and_self]
 have h8:(BitVec.ofInt 64 f).toNat &&& 8≤8:=Nat.and_le_right
 have h8':((BitVec.ofInt 64 f).toNat &&& 8) &&& 8=(BitVec.ofInt 64 f).toNat &&& 8:=by rw [Nat.and_assoc,Nat.and_self]
 generalize (BitVec.ofInt 64 f).toNat &&& 2=a at *
 generalize (BitVec.ofInt 64 f).toNat &&& 8=b at *
 have ha:a=0∨a=2:=by
  have:a=0∨a=1∨a=2:=by omega
  rcases this with rfl|rfl|rfl
  ·exact .inl rfl
  ·exact absurd h2' (by decide)
  ·exact .inr rfl
 have hb:b=0∨b=8:=by
  have:b=0∨b=1∨b=2∨b=3∨b=4∨b=5∨b=6∨b=7∨b=8:=by omega
  rcases this with rfl|rfl|rfl|rfl|rfl|rfl|rfl|rfl|rfl
  ·exact .inl rfl
  all_goals first|exact .inr rfl|exact absurd h8' (by decide)
 rcases ha with rfl|rfl <;> rcases hb with rfl|rfl <;> decide
theorem bitz (f k:Int):(bits .and .i64 f k == 0)=!hasI f k:=by
 rw [hasI]
 cases hz:(bits .and .i64 f k == 0) <;> simp_all
theorem top_has (m:HM):topB m=((hasI m.fl 1&&!hasI m.fl 8)&&!(m.nm.toList == [60,105,110,105,116,62])):=by rw [topB,bitz];rfl
theorem iro_has (m:HM):iroB m=(!hasI m.fl 2&&!hasI m.fl 8):=by
 rw [iroB,bitz,has10c]
 cases hasI m.fl 2 <;> cases hasI m.fl 8 <;> rfl
theorem fm_len (MS:Nat→List HM):∀ l:List Nat,(∀ k∈l,(MS k).length≤1000000)→(l.flatMap (fun k:Nat=>rtK iroB (k:Int) (MS k) 0)).length≤l.length * 1000000
 | [],_=>Nat.zero_le _
 | x::r,h=>by
   rw [List.flatMap_cons,List.length_append,List.length_cons]
   have h1:=Xg iroB (x:Int) (MS x) 0
   have h2:=h x (List.mem_cons_self ..)
   have h3:=fm_len MS r (fun k hk=>h k (List.mem_cons_of_mem _ hk))
   omega
theorem r14r_w (W:World) (b g CL cap:Nat) (am:Option Addr) (n0 cm:Nat) (ms:List HM) (MS:Nat→List HM) (C:List Nat) (K k:Nat)
 (b0:W.cell? ⟨b,0,none⟩=some (.slice (some ⟨g,0,none⟩) CL cap)) (hbl:b<W.heap.size) (hgl:g<W.heap.size) (hCL:(0:Int)<(CL:Int)) (c5:W.cell? ⟨g,5,none⟩=some (.slice am n0 cm)) (hn0:n0≤1000000) (HNL:Hid (ms.length=n0)) (HCL:Hid (C.length=K)) (hK:K≤300)
 (HM0:Hid (∀ (i:Nat) (m:HM),ms[i]?=some m→∃ bk o sa sn sc,am=some ⟨bk,o,none⟩∧bk<W.heap.size∧W.cell? ⟨bk,o+i * 6,none⟩=some (.string m.nm)∧W.cell? ⟨bk,o+i * 6+1,none⟩=some (.string m.ds)∧W.cell? ⟨bk,o+i * 6+2,none⟩=some (.int .i64 m.fl)∧W.cell? ⟨bk,o+i * 6+3,none⟩=some (.int .i64 m.lo)∧W.cell? ⟨bk,o+i * 6+4,none⟩=some (.int .i64 m.st)∧W.cell? ⟨bk,o+i * 6+5,none⟩=some (.slice sa sn sc)))
 (HMK:Hid (∀ (j kk:Nat),C[j]?=some kk→kk<CL∧(MS kk).length≤1000000∧∃ am cm,W.cell? ⟨g,kk * 6+5,none⟩=some (.slice am (MS kk).length cm)∧∀ (i:Nat) (m:HM),(MS kk)[i]?=some m→∃ bk o,am=some ⟨bk,o,none⟩∧bk<W.heap.size∧W.cell? ⟨bk,o+i * 6+2,none⟩=some (.int .i64 m.fl)))
 (HC:Hid (Calls Tryz.prog 51 #[.pointer (some ⟨b,0,none⟩),.int .i64 (k:Int)] W fun e w'=>(∃ v,e=.returned (.tuple #[v,.int .i64 0])∧w'.ownsRow W.heap.size 3 1 v K (C.map numV))∧Bw W w'))
 (HF:Hid (∀ w,Bw W w→Calls Tryz.prog 61 #[.pointer (some ⟨b,0,none⟩),.int .i64 (k:Int)] w fun e w'=>e=.returned (.bool false)∧w'=w)) :
 Calls Tryz.prog 18 #[.pointer (some ⟨b,0,none⟩),.int .i64 (k:Int)] W fun e w'=>(∃ v,e=.returned (.tuple #[v,.int .i64 0])∧w'.ownsRow W.heap.size 38 2 v (rtK topB 0 ms 0++C.flatMap (fun k:Nat=>rtK iroB (k:Int) (MS k) 0)).length (Zf (rtK topB 0 ms 0++C.flatMap (fun k:Nat=>rtK iroB (k:Int) (MS k) 0))))∧Bw W w':=by
 obtain ⟨i0,hi0,hz0,hz1,hz2⟩:=info_parts Tryz.hinfoD
 have B0:Hid (W.cell? ⟨b,0,none⟩=some (.slice (some ⟨g,0,none⟩) CL cap)):=b0
 have C5:Hid (W.cell? ⟨g,5,none⟩=some (.slice am n0 cm)):=c5
 clear b0 c5
 go_enter Tryz.func18,Tryz.ntmps18
 go_wp2_with (first
  | (go_at_call 51;refine HC.out.mono ?_;rintro e V ⟨⟨v0,rfl,ho⟩,hb⟩;obtain ⟨ca,cc,rfl⟩:=ownv ho;have RC:Hid (V.ownsRow W.heap.size 3 1 (.slice ca K cc) K (C.map numV)):=ho;have BV:Hid (Bw W V):=hb;clear ho hb HC)
  | (go_at_call 61;refine (HF.out _ BV.out).mono ?_;rintro e w9 ⟨rfl,hw9⟩;rw [hw9];clear hw9 w9 HF))
 go_loopw [8,9] (fun sv iv wr=>∃ i:Nat,iv=.int .i64 i∧i≤n0∧Hid (wr.ownsRow V.heap.size 38 2 sv (rtK topB 0 (ms.take i) 0).length (Zf (rtK topB 0 (ms.take i) 0)))∧Hid (Bw V wr)) (fun _ iv _=>n0 - (intOf iv).toNat)
 case atStart=>exact ⟨0,rfl,Nat.zero_le _,World.ownsRow_nil _ _ _ _,Below.refl _ _⟩
 case round =>
  obtain ⟨i,rfl,hi,hO,hB⟩:=hrel
  have bW:Bw W wr:=Zb BV.out hB.out
  have b0:wr.cell? ⟨b,0,none⟩=some (.slice (some ⟨g,0,none⟩) CL cap):=(bW.cell (p:=⟨b,0,none⟩) hbl).trans B0.out
  have c5:wr.cell? ⟨g,5,none⟩=some (.slice am n0 cm):=(bW.cell (p:=⟨g,5,none⟩) hgl).trans C5.out
  have hbr:b<wr.heap.size:=Nat.lt_of_lt_of_le hbl bW.size
  have hgr:g<wr.heap.size:=Nat.lt_of_lt_of_le hgl bW.size
  by_cases hlt:i<n0
  ·have hiI:(i:Int)<(n0:Int):=by omega
   obtain ⟨m,hm⟩:∃ m,ms[i]?=some m:=⟨_,List.getElem?_eq_getElem (by rw [HNL.out];exact hlt)⟩
   obtain ⟨bk,o,sa,sn,sc,rfl,hbk,f0,f1,f2,f3,f4,f5⟩:=HM0.out i m hm
   have hbkr:bk<wr.heap.size:=Nat.lt_of_lt_of_le hbk bW.size
   have e0:wr.cell? ⟨bk,o+i * 6,none⟩=some (.string m.nm):=(bW.cell (p:=⟨bk,o+i * 6,none⟩) hbk).trans f0
   have e1:wr.cell? ⟨bk,o+i * 6+1,none⟩=some (.string m.ds):=(bW.cell (p:=⟨bk,o+i * 6+1,none⟩) hbk).trans f1
   have e2:wr.cell? ⟨bk,o+i * 6+2,none⟩=some (.int .i64 m.fl):=(bW.cell (p:=⟨bk,o+i * 6+2,none⟩) hbk).trans f2
   have e3:wr.cell? ⟨bk,o+i * 6+3,none⟩=some (.int .i64 m.lo):=(bW.cell (p:=⟨bk,o+i * 6+3,none⟩) hbk).trans f3
   have e4:wr.cell? ⟨bk,o+i * 6+4,none⟩=some (.int .i64 m.st):=(bW.cell (p:=⟨bk,o+i * 6+4,none⟩) hbk).trans f4
   have e5:wr.cell? ⟨bk,o+i * 6+5,none⟩=some (.slice sa sn sc):=(bW.cell (p:=⟨bk,o+i * 6+5,none⟩) hbk).trans f5
   have HST:Hid (rtK topB 0 (ms.take (i+1)) 0=(rtK topB 0 (ms.take i) 0)++(if topB m then [((0:Int),(i:Int))] else [])):=by
    show _=_
    rw [List.take_add_one,hm,Option.toList_some,Zbd,List.length_take,Nat.min_eq_left (by rw [HNL.out];omega),Nat.zero_add]
   have hll:(rtK topB 0 (ms.take i) 0).length≤400000000:=by
    have h1:=Xg topB 0 (ms.take i) 0
    rw [List.length_take] at h1
    omega
   obtain ⟨LS,hLS⟩:∃ LS,(rtK topB 0 (ms.take i) 0)=LS:=⟨_,rfl⟩
   rw [hLS] at hO HST hll
   obtain ⟨la,lc,rfl⟩:=ownv hO.out
   have H1:Hid (∀ w:World,Calls Tryz.prog 62 #[.int .i64 m.fl,.int .i64 1] w fun e w'=>e=.returned (.bool (hasI m.fl 1))∧w'=w):=Zv m.fl 1
   have H8:Hid (∀ w:World,Calls Tryz.prog 62 #[.int .i64 m.fl,.int .i64 8] w fun e w'=>e=.returned (.bool (hasI m.fl 8))∧w'=w):=Zv m.fl 8
   rw [top_has] at HST
   obtain ⟨ini,hin⟩:∃ ini,(m.nm.toList == [60,105,110,105,116,62])=ini:=⟨_,rfl⟩
   rw [hin] at HST
   have hU0:(wr.alloc (.cells #[.string m.nm,.string m.ds,.int .i64 m.fl,.int .i64 m.lo,.int .i64 m.st,.slice sa sn sc] 87)).heap[wr.heap.size]?=some (.cells #[.string m.nm,.string m.ds,.int .i64 m.fl,.int .i64 m.lo,.int .i64 m.st,.slice sa sn sc] 87 (0,0)):=Zo _ _
   have hUs:(wr.alloc (.cells #[.string m.nm,.string m.ds,.int .i64 m.fl,.int .i64 m.lo,.int .i64 m.st,.slice sa sn sc] 87)).heap.size=wr.heap.size+1:=by simp
   have OU:Hid ((wr.alloc (.cells #[.string m.nm,.string m.ds,.int .i64 m.fl,.int .i64 m.lo,.int .i64 m.st,.slice sa sn sc] 87)).ownsRow V.heap.size 38 2 (.slice la LS.length lc) LS.length (Zf LS)):=hO.out.alloc _
   have BU:Hid (Bw V (wr.alloc (.cells #[.string m.nm,.string m.ds,.int .i64 m.fl,.int .i64 m.lo,.int .i64 m.st,.slice sa sn sc] 87))):=hB.out.alloc hB.out.size _
   clear hLS hm f0 f1 f2 f3 f4 f5 bW
   generalize hasI m.fl 1=h1 at *
   generalize hasI m.fl 8=h8 at *
   go_upto_region 11 with fail
   generalize (wr.alloc (.cells #[.string m.nm,.string m.ds,.int .i64 m.fl,.int .i64 m.lo,.int .i64 m.st,.slice sa sn sc] 87))=U at *
   obtain ⟨u0,u1,u2,u3,u4,u5,uf,uL⟩:=rw6 hU0
   clear hU0 hUs b0 c5 e0 e1 e2 e3 e4 e5
   cases h1
   case' true=>cases h8
   case' true.false=>cases ini
   case true.false.false =>
    go_wp2_with (first|(go_at_call 62;refine (H1.out _).mono ?_;rintro e w9 ⟨rfl,hw9⟩;rw [hw9];clear hw9 w9 H1)|(go_at_call 62;refine (H8.out _).mono ?_;rintro e w9 ⟨rfl,hw9⟩;rw [hw9];clear hw9 w9 H8)|(at_builtin;refine wpList_append_own _ rfl _ _ 30 rfl V.heap.size 38 i0 (.agg #[.int .i64 0,.int .i64 0]) 2 16 Tryz.underlying30 hi0 hz0 hz1 hz2 rfl (by decide) (.slice la LS.length lc) LS.length (Zf LS) rfl (OU.out.alloc _) ⟨U.heap.size,0,none⟩ 1 1 [.int .i64 0,.int .i64 (i:Int)] rfl rfl ?c1 ?c2 ?c3 ?c4 ?c5 ?_))
    case c1=>exact World.news_of_block (cs:=#[.int .i64 0,.int .i64 (i:Int)]) (Zo _ _)
    case c2=>intro u hu;simp at hu;rcases hu with rfl|rfl <;> rfl
    case c3=>unfold maxLen;omega
    case c4=>omega
    case c5=>have:=BU.out.size;simp;omega
    intro v5 w5 hown hgrow _
    have hb5:Hid (Bw V w5):=by
     refine Below.grown (BU.out.alloc BU.out.size _) hgrow (by have:=BU.out.size;simp;omega) (fun z hz=>?_)
     exact (hO.out.lt z hz).1
    go_wp2
    exact ⟨⟨i+1,by simp,by omega,(by have e:=HST.out;simp only [Bool.not_false,Bool.and_self,↓reduceIte] at e;rw [e,List.length_append,List.length_singleton,Yw];exact hown),hb5⟩,by simp [intOf];omega⟩
   all_goals
    go_wp2_with (first|(go_at_call 62;refine (H1.out _).mono ?_;rintro e w9 ⟨rfl,hw9⟩;rw [hw9];clear hw9 w9 H1)|(go_at_call 62;refine (H8.out _).mono ?_;rintro e w9 ⟨rfl,hw9⟩;rw [hw9];clear hw9 w9 H8))
    exact ⟨⟨i+1,by simp,by omega,(by have e:=HST.out;simp at e;rw [e];exact OU),BU⟩,by simp [intOf];omega⟩
  ·have e:i=n0:=by omega
   subst e
   rw [List.take_of_length_le (by rw [HNL.out];exact Nat.le_refl _)] at hO
   obtain ⟨n0,rfl⟩:∃ n0,n0=i:=⟨_,rfl⟩
   obtain ⟨w1,hw1⟩:∃ w1,w1=wr:=⟨_,rfl⟩
   subst hw1
   go_wp2
   clear b0 c5
   have hL0:(rtK topB 0 ms 0).length≤1000000:=by
    have h1:=Xg topB 0 ms 0
    rw [HNL.out] at h1
    omega
   go_loopw [8,11] (fun sv qv wr=>∃ q:Nat,qv=.int .i64 q∧q≤K∧Hid (wr.ownsRow V.heap.size 38 2 sv (rtK topB 0 ms 0++(C.take q).flatMap (fun k:Nat=>rtK iroB (k:Int) (MS k) 0)).length (Zf (rtK topB 0 ms 0++(C.take q).flatMap (fun k:Nat=>rtK iroB (k:Int) (MS k) 0))))∧Hid (Bw V wr)) (fun _ qv _=>K - (intOf qv).toNat)
   case atStart=>exact ⟨0,rfl,Nat.zero_le _,(by rw [List.take_zero,List.flatMap_nil,List.append_nil];exact hO),hB⟩
   case round =>
    clear hO hB
    obtain ⟨q,rfl,hq,hO,hB⟩:=hrel
    by_cases hlq:q<K
    ·have hqI:(q:Int)<(K:Int):=by omega
     obtain ⟨kk,hkk⟩:∃ kk,C[q]?=some kk:=⟨_,List.getElem?_eq_getElem (by rw [HCL.out];exact hlq)⟩
     obtain ⟨hkC,hnk,ak,ck,d5,hfl⟩:=HMK.out q kk hkk
     have hkI:(kk:Int)<(CL:Int):=by omega
     have HFL:Hid (∀ (i:Nat) (m:HM),(MS kk)[i]?=some m→∃ bk o,ak=some ⟨bk,o,none⟩∧bk<W.heap.size∧W.cell? ⟨bk,o+i * 6+2,none⟩=some (.int .i64 m.fl)):=hfl
     have D5:Hid (W.cell? ⟨g,kk * 6+5,none⟩=some (.slice ak (MS kk).length ck)):=d5
     obtain ⟨g8,c8,hf8,_,hgl8,q8⟩:=Zb1 RC.out (by omega)
     injection hf8 with ha8 _ hc8
     subst ha8 hc8
     have CQ:Hid (V.cell? ⟨g8,q,none⟩=some (.int .i64 (kk:Int))):=q8 q _ (by rw [List.getElem?_map,hkk];rfl)
     have HSQ:Hid ((C.take (q+1)).flatMap (fun k:Nat=>rtK iroB (k:Int) (MS k) 0)=(C.take q).flatMap (fun k:Nat=>rtK iroB (k:Int) (MS k) 0)++rtK iroB (kk:Int) (MS kk) 0):=by
      show _=_
      rw [List.take_add_one,hkk,Option.toList_some,List.flatMap_append];simp
     have hLq:(rtK topB 0 ms 0++(C.take q).flatMap (fun k:Nat=>rtK iroB (k:Int) (MS k) 0)).length≤301000000:=by
      have h1:=fm_len MS (C.take q) (fun k hk=>by
       obtain ⟨j,hj⟩:=List.mem_iff_getElem?.1 (List.mem_of_mem_take hk)
       exact (HMK.out j k hj).2.1)
      rw [List.length_take] at h1
      rw [List.length_append]
      omega
     clear hfl d5 hkk q8
     obtain ⟨NK,hNK⟩:∃ NK,(MS kk).length=NK:=⟨_,rfl⟩
     have HNK:Hid ((MS kk).length=NK):=hNK
     rw [hNK] at hnk D5
     clear hNK
     obtain ⟨w2,hw2⟩:∃ w2,w2=wr:=⟨_,rfl⟩
     subst hw2
     go_wp2
     go_loopw [8,12] (fun sv iv wr=>∃ i:Nat,iv=.int .i64 i∧i≤NK∧Hid (wr.ownsRow V.heap.size 38 2 sv ((rtK topB 0 ms 0++(C.take q).flatMap (fun k:Nat=>rtK iroB (k:Int) (MS k) 0))++rtK iroB (kk:Int) ((MS kk).take i) 0).length (Zf ((rtK topB 0 ms 0++(C.take q).flatMap (fun k:Nat=>rtK iroB (k:Int) (MS k) 0))++rtK iroB (kk:Int) ((MS kk).take i) 0)))∧Hid (Bw V wr)) (fun _ iv _=>NK - (intOf iv).toNat)
     case atStart=>exact ⟨0,rfl,Nat.zero_le _,(by rw [List.take_zero,rtK,List.append_nil];exact hO),hB⟩
     case round =>
      clear hO hB
      obtain ⟨i,rfl,hi,hO,hB⟩:=hrel
      have bW:Bw W wr:=Zb BV.out hB.out
      have b0:wr.cell? ⟨b,0,none⟩=some (.slice (some ⟨g,0,none⟩) CL cap):=(bW.cell (p:=⟨b,0,none⟩) hbl).trans B0.out
      have d5:wr.cell? ⟨g,kk * 6+5,none⟩=some (.slice ak NK ck):=(bW.cell (p:=⟨g,kk * 6+5,none⟩) hgl).trans D5.out
      have cq:wr.cell? ⟨g8,q,none⟩=some (.int .i64 (kk:Int)):=(hB.out.cell (p:=⟨g8,q,none⟩) hgl8).trans CQ.out
      have hbr:b<wr.heap.size:=Nat.lt_of_lt_of_le hbl bW.size
      have hgr:g<wr.heap.size:=Nat.lt_of_lt_of_le hgl bW.size
      have h8r:g8<wr.heap.size:=Nat.lt_of_lt_of_le hgl8 hB.out.size
      by_cases hlt:i<NK
      ·have hiI:(i:Int)<(NK:Int):=by omega
       obtain ⟨m,hm⟩:∃ m,(MS kk)[i]?=some m:=⟨_,List.getElem?_eq_getElem (by rw [HNK.out];exact hlt)⟩
       obtain ⟨bk,o,rfl,hbk,f2⟩:=HFL.out i m hm
       have hbkr:bk<wr.heap.size:=Nat.lt_of_lt_of_le hbk bW.size
       have e2:wr.cell? ⟨bk,o+i * 6+2,none⟩=some (.int .i64 m.fl):=(bW.cell (p:=⟨bk,o+i * 6+2,none⟩) hbk).trans f2
       have HST:Hid (((rtK topB 0 ms 0++(C.take q).flatMap (fun k:Nat=>rtK iroB (k:Int) (MS k) 0))++rtK iroB (kk:Int) ((MS kk).take (i+1)) 0)=((rtK topB 0 ms 0++(C.take q).flatMap (fun k:Nat=>rtK iroB (k:Int) (MS k) 0))++rtK iroB (kk:Int) ((MS kk).take i) 0)++(if iroB m then [((kk:Int),(i:Int))] else [])):=by
        show _=_
        rw [List.take_add_one,hm,Option.toList_some,Zbd,List.length_take,Nat.min_eq_left (by rw [HNK.out];omega),Nat.zero_add,List.append_assoc ((rtK topB 0 ms 0++(C.take q).flatMap (fun k:Nat=>rtK iroB (k:Int) (MS k) 0)))]
       have hll:((rtK topB 0 ms 0++(C.take q).flatMap (fun k:Nat=>rtK iroB (k:Int) (MS k) 0))++rtK iroB (kk:Int) ((MS kk).take i) 0).length≤400000000:=by
        have h1:=Xg iroB (kk:Int) ((MS kk).take i) 0
        rw [List.length_take] at h1
        rw [List.length_append]
        omega
       obtain ⟨LS,hLS⟩:∃ LS,((rtK topB 0 ms 0++(C.take q).flatMap (fun k:Nat=>rtK iroB (k:Int) (MS k) 0))++rtK iroB (kk:Int) ((MS kk).take i) 0)=LS:=⟨_,rfl⟩
       rw [hLS] at hO HST hll
       obtain ⟨la,lc,rfl⟩:=ownv hO.out
       have H2:Hid (∀ w:World,Calls Tryz.prog 62 #[.int .i64 m.fl,.int .i64 2] w fun e w'=>e=.returned (.bool (hasI m.fl 2))∧w'=w):=Zv m.fl 2
       have H8:Hid (∀ w:World,Calls Tryz.prog 62 #[.int .i64 m.fl,.int .i64 8] w fun e w'=>e=.returned (.bool (hasI m.fl 8))∧w'=w):=Zv m.fl 8
       rw [iro_has] at HST
       obtain ⟨MF,hMF⟩:∃ MF,m.fl=MF:=⟨_,rfl⟩
       rw [hMF] at HST H2 H8 e2
       clear hLS hm f2 bW hMF
       generalize hasI MF 2=h2 at *
       generalize hasI MF 8=h8 at *
       go_wp2
       go_region
       go_wp2
       go_region
       cases h2
       case' false=>cases h8
       case false.false =>
        go_wp2_with (first|(go_at_call 62;refine (H2.out _).mono ?_;rintro e w9 ⟨rfl,hw9⟩;rw [hw9];clear hw9 w9 H2)|(go_at_call 62;refine (H8.out _).mono ?_;rintro e w9 ⟨rfl,hw9⟩;rw [hw9];clear hw9 w9 H8)|(at_builtin;refine wpList_append_own _ rfl _ _ 30 rfl V.heap.size 38 i0 (.agg #[.int .i64 0,.int .i64 0]) 2 16 Tryz.underlying30 hi0 hz0 hz1 hz2 rfl (by decide) (.slice la LS.length lc) LS.length (Zf LS) rfl (by repeat (first|exact hO.out|refine World.ownsRow.alloc ?_ _|refine World.ownsRow.drew ?_)) ⟨wr.heap.size,0,none⟩ 1 1 [.int .i64 (kk:Int),.int .i64 (i:Int)] rfl rfl ?c1 ?c2 ?c3 ?c4 ?c5 ?_))
        case c1=>exact World.news_of_block (cs:=#[.int .i64 (kk:Int),.int .i64 (i:Int)]) (Zo _ _)
        case c2=>intro u hu;simp at hu;rcases hu with rfl|rfl <;> rfl
        case c3=>unfold maxLen;omega
        case c4=>omega
        case c5=>have:=hB.out.size;simp;omega
        intro v5 w5 hown hgrow _
        have hb5:Hid (Bw V w5):=by
         refine Below.grown (by repeat (first|refine Below.alloc ?_ (by have:=hB.out.size;simp;try omega) _|refine Below.drew ?_|exact hB.out)) hgrow (by have:=hB.out.size;simp;omega) (fun z hz=>?_)
         exact (hO.out.lt z hz).1
        go_wp2
        exact ⟨⟨i+1,by simp,by omega,(by have e:=HST.out;simp only [Bool.not_false,Bool.and_self,↓reduceIte] at e;rw [e,List.length_append,List.length_singleton,Yw];exact hown),hb5⟩,by simp [intOf];omega⟩
       all_goals
        go_wp2_with (first|(go_at_call 62;refine (H2.out _).mono ?_;rintro e w9 ⟨rfl,hw9⟩;rw [hw9];clear hw9 w9 H2)|(go_at_call 62;refine (H8.out _).mono ?_;rintro e w9 ⟨rfl,hw9⟩;rw [hw9];clear hw9 w9 H8))
        exact ⟨⟨i+1,by simp,by omega,(by have e:_=LS:=HST.out.trans (by simp);rw [e];exact (by repeat (first|exact hO.out|refine World.ownsRow.alloc ?_ _|refine World.ownsRow.drew ?_))),(by repeat (first|refine Below.alloc ?_ (by have:=hB.out.size;simp;try omega) _|refine Below.drew ?_|exact hB.out))⟩,by simp [intOf];omega⟩
      ·have e:i=NK:=by omega
       subst e
       rw [show (MS kk).take i=MS kk from List.take_of_length_le (by rw [HNK.out];exact Nat.le_refl _),List.append_assoc,← HSQ.out] at hO
       go_wp2
       go_region
       go_wp2
       exact ⟨⟨q+1,by simp,by omega,(by repeat (first|exact hO.out|refine World.ownsRow.alloc ?_ _|refine World.ownsRow.drew ?_)),(by repeat (first|refine Below.alloc ?_ (by have:=hB.out.size;simp;try omega) _|refine Below.drew ?_|exact hB.out))⟩,by simp [intOf];omega⟩
    ·have e:q=K:=by omega
     subst e
     rw [List.take_of_length_le (by rw [HCL.out];exact Nat.le_refl _)] at hO
     obtain ⟨la,lc,e9⟩:=ownv hO.out
     go_wp2
     exact bodyPost_ret (results_tmp2 rfl _ _ _) rfl ⟨⟨_,rfl,Go.Joins.ownsRow_le hO.out BV.out.size⟩,Zb BV.out hB.out⟩
end Go.Proofs.YtmafkabjjibcbaaGreat
