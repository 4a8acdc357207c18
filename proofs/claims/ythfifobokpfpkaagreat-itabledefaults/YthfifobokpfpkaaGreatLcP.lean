import Derived.Test.YthfifobokpfpkaaGreatItA
import Derived.Test.YthfifobokpfpkaaGreatMxC
import Derived.Test.YthfifobokpfpkaaGreatHrS
import Derived.Test.YthfifobokpfpkaaGreatOvP
import Derived.Test.YthfifobokpfpkaaGreatAcE
import Derived.Test.YthfifobokpfpkaaGreatHrQ
set_option maxRecDepth 100000
namespace Go.Proofs.YthfifobokpfpkaaGreat
open Go.RowKit Go.Maps
set_option maxHeartbeats 1000000 in
theorem isTop_c (m:HM) (a:Option Addr) (n s:Nat) (W:World):Calls Tryz.prog 127 #[.agg #[.string m.nm,.string m.ds,.int .i64 m.fl,.int .i64 m.lo,.int .i64 m.st,.slice a n s]] W fun e w'=>e=.returned (.bool (topB m))∧Below W.heap.size W w':=by
  unfold topB
  obtain ⟨mn,md,mf,ml,ms,mk,mx⟩:=m
  simp only
  cases h1:(bits .and .i64 mf 1 != 0)
  case' true=>cases h2:(bits .and .i64 mf 8 == 0)
  case' true.true=>cases h3:(mn.toList == [60,105,110,105,116,62])
  all_goals
    go_enter Tryz.func127,Tryz.ntmps127
    go_wp2
  all_goals go_ret
  all_goals exact ⟨retB (by simp [*]),(by repeat (first|exact Below.refl _ _|refine Below.setCell ?_ (by simp;try omega) _|refine Below.alloc ?_ (by simp;try omega) _|refine Below.drew ?_))⟩
theorem isIro_c (m:HM) (a:Option Addr) (n s:Nat) (W:World):Calls Tryz.prog 128 #[.agg #[.string m.nm,.string m.ds,.int .i64 m.fl,.int .i64 m.lo,.int .i64 m.st,.slice a n s]] W fun e w'=>e=.returned (.bool (iroB m))∧Below W.heap.size W w':=by
  unfold iroB
  go_enter Tryz.func128,Tryz.ntmps128
  go_wp2
  all_goals go_ret
  all_goals exact ⟨retB (by simp),(by repeat (first|exact Below.refl _ _|refine Below.setCell ?_ (by simp;try omega) _|refine Below.alloc ?_ (by simp;try omega) _|refine Below.drew ?_))⟩
set_option maxHeartbeats 2000000 in
theorem closureOf_no {b:Nat} {ps:List Plc} {W:World} (h:WAt b ps W) (x:Int) (hx:¬ itE ps x=0) (hl:ps.length≤300):Calls Tryz.prog 125 #[.pointer (some ⟨b,0,none⟩),.int .i64 x] W fun e w'=>e=.returned (.tuple #[.slice none 0 0,.int .i64 (itE ps x)])∧Below W.heap.size W w':=by
  rcases plcI_cases ps x with ⟨h1,h2⟩|⟨k,q,rfl,hq,h1⟩
  · have e:itE ps x=3:=by rw [itE,h1]
    rw [e]
    have HC:Hid (Calls Tryz.prog 32 #[.pointer (some ⟨b,0,none⟩),.int .i64 x] W fun e w'=>e=.returned (.tuple #[.slice none 0 0,.int .i64 3])∧w'=W):=by
      obtain ⟨N,mb,vp,pv,h⟩:=h
      exact closure_no N b mb ps vp pv x W h h2
    clear h h2 hx e
    go_enter Tryz.func125,Tryz.ntmps125
    go_wp2_with (go_at_call 32;refine HC.out.mono ?_;rintro e w9 ⟨rfl,hw9⟩;rw [hw9];clear hw9 w9)
    exact bodyPost_ret (results_tmp2 rfl _ _ _) rfl ⟨rfl,Below.refl _ _⟩
  · have hf:ifcI ps (k:Int)=true:=by
      cases hf:ifcI ps (k:Int) with
      | true=>rfl
      | false=>exact absurd (by rw [itE,h1];simp [hf]) hx
    have e:itE ps (k:Int)=23:=by rw [itE,h1];simp [hf]
    rw [e]
    have HC:Hid (Calls Tryz.prog 32 #[.pointer (some ⟨b,0,none⟩),.int .i64 (k:Int)] W fun e w'=>∃ v,e=.returned (.tuple #[v,.int .i64 0])∧w'.ownsRow W.heap.size 3 1 v q.cl.length (q.cl.map numV)∧Below W.heap.size W w'):=by
      obtain ⟨N,mb,vp,pv,h⟩:=h
      exact closure_yes N b mb ps vp pv k q W h hq hl
    have HI:Hid (∀ w,Below W.heap.size W w→Calls Tryz.prog 23 #[.pointer (some ⟨b,0,none⟩),.int .i64 (k:Int)] w fun e w'=>e=.returned (.bool true)∧Below w.heap.size w w'):=fun w hb=>by
      have:=isIface_c (h.below hb) (k:Int)
      rw [hf] at this
      exact this
    clear h hq hx e hf
    go_enter Tryz.func125,Tryz.ntmps125
    go_wp2_with (first
      | (go_at_call 32;refine HC.out.mono ?_;rintro e w1 ⟨v,rfl,ho,hb⟩;have B1:Hid (Below W.heap.size W w1):=hb;clear ho hb HC)
      | (go_at_call 23;refine (HI.out _ B1.out).mono ?_;rintro e w2 ⟨rfl,hb⟩;have B2:Hid (Below W.heap.size W w2):=bstep B1.out hb;clear hb HI))
    exact bodyPost_ret (results_tmp2 rfl _ _ _) rfl ⟨rfl,B2.out⟩
set_option maxHeartbeats 2000000 in
theorem closureOf_yes {b:Nat} {ps:List Plc} {W:World} (h:WAt b ps W) (k:Nat) (q:Plc) (hq:ps[k]?=some q) (hf:ifcI ps (k:Int)=false) (hl:ps.length≤300):Calls Tryz.prog 125 #[.pointer (some ⟨b,0,none⟩),.int .i64 (k:Int)] W fun e w'=>∃ v,e=.returned (.tuple #[v,.int .i64 0])∧w'.ownsRow W.heap.size 3 1 v q.cl.length (q.cl.map numV)∧Below W.heap.size W w':=by
  have HC:Hid (Calls Tryz.prog 32 #[.pointer (some ⟨b,0,none⟩),.int .i64 (k:Int)] W fun e w'=>∃ v,e=.returned (.tuple #[v,.int .i64 0])∧w'.ownsRow W.heap.size 3 1 v q.cl.length (q.cl.map numV)∧Below W.heap.size W w'):=by
    obtain ⟨N,mb,vp,pv,h⟩:=h
    exact closure_yes N b mb ps vp pv k q W h hq hl
  have HI:Hid (∀ w,Below W.heap.size W w→Calls Tryz.prog 23 #[.pointer (some ⟨b,0,none⟩),.int .i64 (k:Int)] w fun e w'=>e=.returned (.bool false)∧Below w.heap.size w w'):=fun w hb=>by
    have:=isIface_c (h.below hb) (k:Int)
    rw [hf] at this
    exact this
  obtain ⟨K,hK⟩:∃ K,q.cl.length=K:=⟨_,rfl⟩
  obtain ⟨C,hC⟩:∃ C,q.cl.map numV=C:=⟨_,rfl⟩
  rw [hK,hC] at HC ⊢
  clear h hq hf hK hC
  go_enter Tryz.func125,Tryz.ntmps125
  go_wp2_with (first
    | (go_at_call 32;refine HC.out.mono ?_;rintro e w1 ⟨v,rfl,ho,hb⟩;have O1:Hid (w1.ownsRow W.heap.size 3 1 v K C):=ho;have B1:Hid (Below W.heap.size W w1):=hb;clear ho hb HC)
    | (go_at_call 23;refine (HI.out _ B1.out).mono ?_;rintro e w2 ⟨rfl,hb⟩;have O2:Hid (w2.ownsRow W.heap.size 3 1 v K C):=rowBelow O1.out hb;have B2:Hid (Below W.heap.size W w2):=bstep B1.out hb;clear hb HI O1))
  exact bodyPost_ret (results_tmp2 rfl _ _ _) rfl ⟨_,rfl,O2.out,B2.out⟩
theorem callTop (vs:Array Value) (w:World):(callFunc 127 vs).run Tryz.prog w=.ok (.enter 127 vs) w:=by simp [go_sem]
theorem callIro (vs:Array Value) (w:World):(callFunc 128 vs).run Tryz.prog w=.ok (.enter 128 vs) w:=by simp [go_sem]
set_option maxHeartbeats 8000000 in
theorem rootsIn_w (g:Nat) (eg:∀ args w,(callFunc g args).run Tryz.prog w=.ok (.enter g args) w) (p:HM→Bool) (hp:∀ (m:HM) (a:Option Addr) (n s:Nat) (w:World),Calls Tryz.prog g #[.agg #[.string m.nm,.string m.ds,.int .i64 m.fl,.int .i64 m.lo,.int .i64 m.st,.slice a n s]] w fun e w'=>e=.returned (.bool (p m))∧Below w.heap.size w w') (W:World) (b k:Nat) (q:Plc) (hms:q.c.ms.length≤1000000)
    (HCL:Hid (Calls Tryz.prog 31 #[.pointer (some ⟨b,0,none⟩),.int .i64 (k:Int)] W fun e w'=>(∃ vi vm qm,e=.returned (.tuple #[.agg #[.string q.c.nm,.string q.c.su,vi,.int .i64 q.c.fl,.int .i64 q.c.ld,vm],.int .i64 0])∧OwnC w' W.heap.size vi q.c.ni q.c.xi vm qm∧qm.map Prod.fst=q.c.ms)∧Below W.heap.size W w')) :
    Calls Tryz.prog 126 #[.pointer (some ⟨b,0,none⟩),.int .i64 (k:Int),.func (.func g) #[] #[]] W fun e w'=>(∃ v,e=.returned v∧w'.ownsRow W.heap.size 24 2 v (rtK p (k:Int) q.c.ms 0).length (flatD (rtK p (k:Int) q.c.ms 0)))∧Below W.heap.size W w':=by
  obtain ⟨i0,hi0,hz0,hz1,hz2⟩:=info_parts Tryz.hinfoD
  have HP:Hid (∀ (m:HM) (a:Option Addr) (n s:Nat) (w:World),Calls Tryz.prog g #[.agg #[.string m.nm,.string m.ds,.int .i64 m.fl,.int .i64 m.lo,.int .i64 m.st,.slice a n s]] w fun e w'=>e=.returned (.bool (p m))∧Below w.heap.size w w'):=hp
  clear hp
  go_enter Tryz.func126,Tryz.ntmps126
  go_wp2_with (first
    | (go_at_call 31;refine HCL.out.mono ?_;rintro e w2 ⟨⟨vi,vm,qm,rfl,hoc,hqm⟩,hb⟩;obtain ⟨ia,ic,rfl⟩:=ownv hoc.ifs;obtain ⟨ma,mc,rfl⟩:=ownv hoc.ms;have OM:Hid (w2.ownsRow W.heap.size 30 6 (.slice ma qm.length mc) qm.length (flatH qm)):=hoc.ms;have HQM:Hid (qm.map Prod.fst=q.c.ms):=hqm;have HCOD:Hid (∀ p∈qm,∃ a c,p.2=.slice a p.1.n c):=(fun p hp=>ownv (hoc.cod p hp));have B2:Hid (Below W.heap.size W w2):=hb;clear hb hoc hqm HCL))
  obtain ⟨K,hK⟩:∃ K,qm.length=K:=⟨_,rfl⟩
  have HK:Hid (qm.length=K):=hK
  have hKb:K≤1000000:=by
    have:=congrArg List.length HQM.out
    rw [List.length_map,hK] at this
    omega
  have HKm:Hid (q.c.ms.length=K):=by rw [Hid,← HQM.out,List.length_map,hK]
  rw [hK] at OM ⊢
  obtain ⟨U,hU⟩:∃ U,U=w2.alloc (.cells #[.string q.c.nm,.string q.c.su,.slice ia q.c.ni ic,.int .i64 q.c.fl,.int .i64 q.c.ld,.slice ma K mc] 53):=⟨_,rfl⟩
  have BU:Hid (Below W.heap.size W U):=by rw [hU];exact B2.out.alloc B2.out.size _
  have OMU:Hid (U.ownsRow W.heap.size 30 6 (.slice ma K mc) K (flatH qm)):=by rw [hU];exact OM.out.alloc _
  rw [← hU]
  clear hU hK OM hms B2
  go_loopw [9,21] (fun sv kv wr=>∃ (i:Nat),kv=.int .i64 i∧i≤K∧Hid (wr.ownsRow U.heap.size 24 2 sv (rtK p (k:Int) (q.c.ms.take i) 0).length (flatD (rtK p (k:Int) (q.c.ms.take i) 0)))∧Hid (Below U.heap.size U wr)) (fun _ kv _=>K - (intOf kv).toNat)
  case atStart=>exact ⟨0,rfl,Nat.zero_le _,World.ownsRow_nil _ _ _ _,Below.refl _ _⟩
  case round =>
    obtain ⟨i,rfl,hi,hO,hB⟩:=hrel
    by_cases hlt:i<K
    · have hiI:(i:Int)<(K:Int):=by omega
      obtain ⟨⟨m,um⟩,hm⟩:∃ m,qm[i]?=some m:=⟨_,List.getElem?_eq_getElem (by rw [HK.out];exact hlt)⟩
      have hmm:q.c.ms[i]?=some m:=by rw [← HQM.out,List.getElem?_map,hm];rfl
      obtain ⟨gm,cm,hform⟩:=Go.Joins.ownsRow_form OMU.out (by omega)
      injection hform with hca _ hcc
      subst hca hcc
      obtain ⟨ua,uc,hum⟩:=HCOD.out (m,um) (List.mem_of_getElem? hm)
      simp only at hum
      subst hum
      have hcell:=fun j (hj:j<6)=>((rowBelow OMU.out hB.out).cellAt (i * 6+j) (by have:=flatH_length qm;have:=HK.out;omega)).trans (flatH_at qm i (m,_) hm j hj)
      have c0:=hcell 0 (by omega)
      have c1:=hcell 1 (by omega)
      have c2:=hcell 2 (by omega)
      have c3:=hcell 3 (by omega)
      have c4:=hcell 4 (by omega)
      have c5:=hcell 5 (by omega)
      simp only [hmC,List.getElem?_cons_zero,List.getElem?_cons_succ,Nat.add_zero] at c0 c1 c2 c3 c4 c5
      have hst:rtK p (k:Int) (q.c.ms.take (i+1)) 0=rtK p (k:Int) (q.c.ms.take i) 0++(if p m then [((k:Int),(i:Int))] else []):=by
        have h1:(q.c.ms.take i).length=i:=by rw [List.length_take,HKm.out];omega
        rw [List.take_add_one,hmm,Option.toList_some,rtK_snoc,h1,Nat.zero_add]
      have HC:Hid (∀ w:World,Calls Tryz.prog g #[.agg #[.string m.nm,.string m.ds,.int .i64 m.fl,.int .i64 m.lo,.int .i64 m.st,.slice ua m.n uc]] w fun e w'=>e=.returned (.bool (p m))∧Below w.heap.size w w'):=fun w=>HP.out m ua m.n uc w
      have hal:(rtK p (k:Int) (q.c.ms.take i) 0).length≤1000000:=by
        have:=rtK_len p (k:Int) (q.c.ms.take i) 0
        rw [List.length_take] at this
        omega
      obtain ⟨L,hL⟩:∃ L,rtK p (k:Int) (q.c.ms.take i) 0=L:=⟨_,rfl⟩
      rw [hL] at hst hal hO
      obtain ⟨va,vn,rfl⟩:=ownv hO.out
      have HST:Hid _:=hst
      generalize p m=pm at *
      clear hm hmm hcell hL hst
      cases pm with
      | false =>
        have hst2:rtK p (k:Int) (q.c.ms.take (i+1)) 0=L:=by rw [HST.out];simp
        have HST2:Hid _:=hst2
        clear HST hst2
        go_wp2_with (go_at_fn g;refine (HC.out _).mono ?_;rintro e w3 ⟨rfl,hb⟩;have B3:Hid (Below U.heap.size U w3):=bstep (hB.out.alloc hB.out.size _) hb;have O3:Hid (w3.ownsRow U.heap.size 24 2 (.slice va L.length vn) L.length (flatD L)):=rowBelow (hO.out.alloc _) hb;clear hb HC)
        refine ⟨⟨i+1,by simp,by omega,?_,B3⟩,by simp [intOf];omega⟩
        rw [HST2.out];exact O3
      | true =>
        have hst2:rtK p (k:Int) (q.c.ms.take (i+1)) 0=L++[((k:Int),(i:Int))]:=by rw [HST.out,if_pos rfl]
        have HST2:Hid _:=hst2
        clear HST hst2
        go_wp2_with (first
          | (go_at_fn g;refine (HC.out _).mono ?_;rintro e w3 ⟨rfl,hb⟩;have B3:Hid (Below U.heap.size U w3):=bstep (hB.out.alloc hB.out.size _) hb;have O3:Hid (w3.ownsRow U.heap.size 24 2 (.slice va L.length vn) L.length (flatD L)):=rowBelow (hO.out.alloc _) hb;clear hb HC)
          | (at_builtin;refine wpList_append_own _ rfl _ _ 34 rfl U.heap.size 24 i0 (.agg #[.int .i64 0,.int .i64 0]) 2 16 Tryz.underlying34 hi0 hz0 hz1 hz2 rfl (by decide) (.slice va L.length vn) L.length (flatD L) rfl (O3.out.alloc _) ⟨w3.heap.size,0,none⟩ 1 1 [.int .i64 (k:Int),.int .i64 (i:Int)] rfl rfl ?c1 ?c2 ?c3 ?c4 ?c5 ?_))
        case c1=>intro jj u hj;rw [addr_add];match jj,hj with
          | 0,hj=>simp at hj;subst hj;simp [go_sem]
          | 1,hj=>simp at hj;subst hj;simp [go_sem]
          | (jj+2),hj=>simp at hj
        case c2=>intro u hu;simp at hu;rcases hu with rfl|rfl <;> rfl
        case c3=>unfold maxLen;omega
        case c4=>omega
        case c5=>have:=B3.out.size;simp;omega
        intro v' w4 hown hgrow _
        obtain ⟨va2,vn2,rfl⟩:=ownv hown
        have B4:Hid (Below U.heap.size U w4):=by
          have hb1:Below U.heap.size U (w3.alloc (.cells #[.int .i64 (k:Int),.int .i64 (i:Int)] 24)):=B3.out.alloc B3.out.size _
          refine hb1.grown hgrow hb1.size (fun x hx=>?_)
          have:=(O3.out.lt x hx).1
          omega
        have O4:Hid (w4.ownsRow U.heap.size 24 2 (.slice va2 (L.length+1) vn2) (L++[((k:Int),(i:Int))]).length (flatD (L++[((k:Int),(i:Int))]))):=by
          rw [Hid,List.length_append,flatD_app];exact hown
        go_wp2
        refine ⟨⟨i+1,by simp,by omega,?_,B4⟩,by simp [intOf];omega⟩
        rw [HST2.out];exact O4
    · have e:i=K:=by omega
      subst e
      have HE:Hid (rtK p (k:Int) (q.c.ms.take i) 0=rtK p (k:Int) q.c.ms 0):=by rw [Hid,List.take_of_length_le (by rw [HKm.out];exact Nat.le_refl _)]
      rw [HE.out] at hO
      obtain ⟨va,vn,rfl⟩:=ownv hO.out
      go_wp2
      exact bodyPost_ret (results_tmp rfl _ _ _) rfl ⟨⟨_,rfl,Go.Joins.ownsRow_le hO.out BU.out.size⟩,BU.out.trans (hB.out.mono BU.out.size)⟩
theorem rootsTop_c {b:Nat} {ps:List Plc} {W:World} (h:WAt b ps W) (hW:WI ps) (k:Nat) (hk:k<ps.length):Calls Tryz.prog 126 #[.pointer (some ⟨b,0,none⟩),.int .i64 (k:Int),.func (.func 127) #[] #[]] W fun e w'=>(∃ v,e=.returned v∧w'.ownsRow W.heap.size 24 2 v (rtK topB (k:Int) (mtK ps k) 0).length (flatD (rtK topB (k:Int) (mtK ps k) 0)))∧Below W.heap.size W w':=by
  have hq:ps[k]?=some ps[k]:=List.getElem?_eq_getElem hk
  have e:mtK ps k=ps[k].c.ms:=by rw [mtK,hq]
  rw [e]
  refine rootsIn_w 127 callTop topB isTop_c W b k ps[k] (hW.pb _ (List.mem_of_getElem? hq)).ms ?_
  have:=class_c h hW.pb (k:Int)
  rw [plcI_nat,hq] at this
  exact this
theorem rootsIro_c {b:Nat} {ps:List Plc} {W:World} (h:WAt b ps W) (hW:WI ps) (k:Nat) (hk:k<ps.length):Calls Tryz.prog 126 #[.pointer (some ⟨b,0,none⟩),.int .i64 (k:Int),.func (.func 128) #[] #[]] W fun e w'=>(∃ v,e=.returned v∧w'.ownsRow W.heap.size 24 2 v (rtK iroB (k:Int) (mtK ps k) 0).length (flatD (rtK iroB (k:Int) (mtK ps k) 0)))∧Below W.heap.size W w':=by
  have hq:ps[k]?=some ps[k]:=List.getElem?_eq_getElem hk
  have e:mtK ps k=ps[k].c.ms:=by rw [mtK,hq]
  rw [e]
  refine rootsIn_w 128 callIro iroB isIro_c W b k ps[k] (hW.pb _ (List.mem_of_getElem? hq)).ms ?_
  have:=class_c h hW.pb (k:Int)
  rw [plcI_nat,hq] at this
  exact this
set_option maxHeartbeats 8000000 in
theorem roots_yes {b:Nat} {ps:List Plc} {W:World} (h:WAt b ps W) (hW:WI ps) (k:Nat) (q:Plc) (hq:ps[k]?=some q) (hf:ifcI ps (k:Int)=false):Calls Tryz.prog 65 #[.pointer (some ⟨b,0,none⟩),.int .i64 (k:Int)] W fun e w'=>(∃ v,e=.returned (.tuple #[v,.int .i64 0])∧w'.ownsRow W.heap.size 24 2 v (rtsP ps q).length (flatD (rtsP ps q)))∧Below W.heap.size W w':=by
  obtain ⟨i0,hi0,hz0,hz1,hz2⟩:=info_parts Tryz.hinfoD
  have hk:=(List.getElem?_eq_some_iff.1 hq).1
  have hcl:=hW.wo.cl k (nd q) (by rw [List.getElem?_map,hq];rfl)
  have HCB:Hid (∀ i∈q.cl,i<ps.length):=fun i hi=>by
    have:=(hcl.2 i hi).1
    omega
  have hKb:q.cl.length≤300:=by
    have:=List.Nodup.length_le_of_subset hcl.1 (l₂:=List.range ps.length) (fun i hi=>List.mem_range.2 (HCB.out i hi))
    rw [List.length_range] at this
    have h2:=hW.hi
    have h3:q.cl.length≤ps.length:=this
    omega
  have hmt:∀ j,(mtK ps j).length≤1000000:=fun j=>by
    rw [mtK]
    split
    · rename_i p hp;exact (hW.pb p (List.mem_of_getElem? hp)).ms
    · exact Nat.zero_le _
  have HRL:Hid (∀ l:List Nat,(rtK topB 0 (mtK ps 0) 0++l.flatMap fun k:Nat=>rtK iroB (k:Int) (mtK ps k) 0).length≤1000000+l.length * 1000000):=fun l=>by
    have hf:∀ l:List Nat,(l.flatMap fun k:Nat=>rtK iroB (k:Int) (mtK ps k) 0).length≤l.length * 1000000:=by
      intro l
      induction l with
      | nil=>exact Nat.zero_le _
      | cons x r ih =>
        rw [List.flatMap_cons,List.length_append,List.length_cons]
        have h1:=rtK_len iroB (x:Int) (mtK ps x) 0
        have h2:=hmt x
        omega
    rw [List.length_append]
    have h1:=rtK_len topB 0 (mtK ps 0) 0
    have h2:=hmt 0
    have h3:=hf l
    omega
  have HMT:Hid (∀ j,(mtK ps j).length≤1000000):=hmt
  have HCO:Hid (Calls Tryz.prog 125 #[.pointer (some ⟨b,0,none⟩),.int .i64 (k:Int)] W fun e w'=>∃ v,e=.returned (.tuple #[v,.int .i64 0])∧w'.ownsRow W.heap.size 3 1 v q.cl.length (q.cl.map numV)∧Below W.heap.size W w'):=closureOf_yes h k q hq hf hW.hi
  have HTP:Hid (∀ w,Below W.heap.size W w→Calls Tryz.prog 126 #[.pointer (some ⟨b,0,none⟩),.int .i64 0,.func (.func 127) #[] #[]] w fun e w'=>(∃ v,e=.returned v∧w'.ownsRow w.heap.size 24 2 v (rtK topB 0 (mtK ps 0) 0).length (flatD (rtK topB 0 (mtK ps 0) 0)))∧Below w.heap.size w w'):=fun w hb=>rootsTop_c (h.below hb) hW 0 (by omega)
  have HIR:Hid (∀ (i:Nat) w,i<ps.length→Below W.heap.size W w→Calls Tryz.prog 126 #[.pointer (some ⟨b,0,none⟩),.int .i64 (i:Int),.func (.func 128) #[] #[]] w fun e w'=>(∃ v,e=.returned v∧w'.ownsRow w.heap.size 24 2 v (rtK iroB (i:Int) (mtK ps i) 0).length (flatD (rtK iroB (i:Int) (mtK ps i) 0)))∧Below w.heap.size w w'):=fun i w hi hb=>rootsIro_c (h.below hb) hW i hi
  obtain ⟨K,hK⟩:∃ K,q.cl.length=K:=⟨_,rfl⟩
  have HK:Hid (q.cl.length=K):=hK
  rw [hK] at hKb
  clear h hW hq hf hcl hmt hK hk
  go_enter Tryz.func65,Tryz.ntmps65
  go_wp2_with (first
    | (go_at_call 125;refine HCO.out.mono ?_;rintro e w1 ⟨v,rfl,ho,hb⟩;rw [HK.out] at ho;obtain ⟨ca,cc,rfl⟩:=ownv ho;have O1:Hid (w1.ownsRow W.heap.size 3 1 (.slice ca K cc) K (q.cl.map numV)):=ho;have B1:Hid (Below W.heap.size W w1):=hb;clear ho hb HCO)
    | (go_at_call 126;refine (HTP.out _ B1.out).mono ?_;rintro e w2 ⟨⟨v,rfl,ho⟩,hb⟩;have R2:Hid (w2.ownsRow w1.heap.size 24 2 v (rtK topB 0 (mtK ps 0) 0).length (flatD (rtK topB 0 (mtK ps 0) 0))):=ho;have B2:Hid (Below w1.heap.size w1 w2):=hb;clear ho hb HTP))
  go_loopw [8,24] (fun sv kv wr=>∃ (j:Nat),kv=.int .i64 j∧j≤K∧Hid (wr.ownsRow w1.heap.size 24 2 sv (rtK topB 0 (mtK ps 0) 0++(q.cl.take j).flatMap fun k:Nat=>rtK iroB (k:Int) (mtK ps k) 0).length (flatD (rtK topB 0 (mtK ps 0) 0++(q.cl.take j).flatMap fun k:Nat=>rtK iroB (k:Int) (mtK ps k) 0)))∧Hid (Below w1.heap.size w1 wr)) (fun _ kv _=>K - (intOf kv).toNat)
  case atStart=>exact ⟨0,rfl,Nat.zero_le _,(by have:=R2.out;rw [Hid,List.take_zero,List.flatMap_nil,List.append_nil];exact this),B2⟩
  case round =>
    clear R2 B2
    obtain ⟨j,rfl,hj,hO,hB⟩:=hrel
    by_cases hlt:j<K
    · have hjI:(j:Int)<(K:Int):=by omega
      have hjl:j<q.cl.length:=by rw [HK.out];exact hlt
      obtain ⟨i,hi⟩:∃ i,q.cl[j]?=some i:=⟨_,List.getElem?_eq_getElem hjl⟩
      obtain ⟨g,c2,hform⟩:=Go.Joins.ownsRow_form O1.out (by omega)
      have hce:w1.cell? ⟨g,j,none⟩=some (.int .i64 (i:Int)):=by
        have hrow:=O1.out
        rw [hform] at hrow
        rw [hrow.cellAt j (by omega),List.getElem?_map,hi];rfl
      injection hform with hca _ hcc
      subst hca hcc
      have hgl:g<w1.heap.size:=World.block_lt_of_cell? w1 _ hce
      have hcr:=(hB.out.cell (p:=⟨g,j,none⟩) hgl).trans hce
      have HC:=HIR.out i wr (HCB.out i (List.mem_of_getElem? hi)) (bstep B1.out hB.out)
      have hst:(rtK topB 0 (mtK ps 0) 0++(q.cl.take (j+1)).flatMap fun k:Nat=>rtK iroB (k:Int) (mtK ps k) 0)=(rtK topB 0 (mtK ps 0) 0++(q.cl.take j).flatMap fun k:Nat=>rtK iroB (k:Int) (mtK ps k) 0)++rtK iroB (i:Int) (mtK ps i) 0:=by
        rw [List.take_add_one,hi,Option.toList_some,List.flatMap_append,List.flatMap_cons,List.flatMap_nil,List.append_nil,List.append_assoc]
      have hal:(rtK topB 0 (mtK ps 0) 0++(q.cl.take j).flatMap fun k:Nat=>rtK iroB (k:Int) (mtK ps k) 0).length≤301000000:=by
        have:=HRL.out (q.cl.take j)
        rw [List.length_take] at this
        omega
      have hnl:(rtK iroB (i:Int) (mtK ps i) 0).length≤1000000:=Nat.le_trans (rtK_len _ _ _ _) (HMT.out i)
      obtain ⟨L,hL⟩:∃ L,(rtK topB 0 (mtK ps 0) 0++(q.cl.take j).flatMap fun k:Nat=>rtK iroB (k:Int) (mtK ps k) 0)=L:=⟨_,rfl⟩
      obtain ⟨M,hM⟩:∃ M,rtK iroB (i:Int) (mtK ps i) 0=M:=⟨_,rfl⟩
      rw [hL] at hst hal hO
      rw [hM] at hst hnl HC
      have HST:Hid ((rtK topB 0 (mtK ps 0) 0++(q.cl.take (j+1)).flatMap fun k:Nat=>rtK iroB (k:Int) (mtK ps k) 0)=L++M):=hst
      have HCH:Hid (Calls Tryz.prog 126 #[.pointer (some ⟨b,0,none⟩),.int .i64 (i:Int),.func (.func 128) #[] #[]] wr fun e w'=>(∃ v,e=.returned v∧w'.ownsRow wr.heap.size 24 2 v M.length (flatD M))∧Below wr.heap.size wr w'):=HC
      obtain ⟨va,vn,rfl⟩:=ownv hO.out
      clear hce hi hjl hL hM hst HC
      go_wp2_with (first
        | (go_at_call 126;refine HCH.out.mono ?_;rintro e w3 ⟨⟨vx,rfl,ho⟩,hb⟩;have X3:Hid (w3.ownsRow wr.heap.size 24 2 vx M.length (flatD M)):=ho;have B3:Hid (Below w1.heap.size w1 w3):=bstep hB.out hb;have O3:Hid (w3.ownsRow w1.heap.size 24 2 (.slice va L.length vn) L.length (flatD L)):=rowBelow hO.out hb;clear ho hb HCH)
        | (at_builtin;refine wpList_append_rdw rfl _ _ 34 rfl w1.heap.size 24 i0 (.agg #[.int .i64 0,.int .i64 0]) 2 16 Tryz.underlying34 hi0 hz0 hz1 hz2 rfl (by decide) (.slice va L.length vn) L.length (flatD L) rfl O3.out vx M.length (flatD M) rfl (.inl (own_rds X3.out)) (flatD_one M) ?c1 ?c2 ?c3 ?_))
      case c1=>unfold maxLen;omega
      case c2=>omega
      case c3=>exact B3.out.size
      intro v' w4 hown hgrow
      obtain ⟨va2,vn2,rfl⟩:=ownv hown
      have B4:Hid (Below w1.heap.size w1 w4):=by
        refine B3.out.grown hgrow B3.out.size (fun x hx=>?_)
        have:=(O3.out.lt x hx).1
        omega
      have O4:Hid (w4.ownsRow w1.heap.size 24 2 (.slice va2 (L.length+M.length) vn2) (L++M).length (flatD (L++M))):=by
        rw [Hid,List.length_append,flatD_app];exact hown
      go_wp2
      refine ⟨⟨j+1,by simp,by omega,?_,B4⟩,by simp [intOf];omega⟩
      rw [HST.out];exact O4
    · have e:j=K:=by omega
      subst e
      have HE:Hid ((rtK topB 0 (mtK ps 0) 0++(q.cl.take j).flatMap fun k:Nat=>rtK iroB (k:Int) (mtK ps k) 0)=rtsP ps q):=by rw [Hid,List.take_of_length_le (by rw [HK.out];exact Nat.le_refl _),rtsP]
      rw [HE.out] at hO
      obtain ⟨va,vn,rfl⟩:=ownv hO.out
      go_wp2
      exact bodyPost_ret (results_tmp2 rfl _ _ _) rfl ⟨⟨_,rfl,Go.Joins.ownsRow_le hO.out B1.out.size⟩,B1.out.trans (hB.out.mono B1.out.size)⟩
theorem roots_no {b:Nat} {ps:List Plc} {W:World} (h:WAt b ps W) (hW:WI ps) (x:Int) (hx:¬ itE ps x=0):Calls Tryz.prog 65 #[.pointer (some ⟨b,0,none⟩),.int .i64 x] W fun e w'=>e=.returned (.tuple #[.slice none 0 0,.int .i64 (itE ps x)])∧Below W.heap.size W w':=by
  have HCO:Hid (Calls Tryz.prog 125 #[.pointer (some ⟨b,0,none⟩),.int .i64 x] W fun e w'=>e=.returned (.tuple #[.slice none 0 0,.int .i64 (itE ps x)])∧Below W.heap.size W w'):=closureOf_no h x hx hW.hi
  generalize itE ps x=E at *
  have hE:(E == 0)=false:=by simp [hx]
  clear h hW
  go_enter Tryz.func65,Tryz.ntmps65
  go_wp2_with (go_at_call 125;refine HCO.out.mono ?_;rintro e w1 ⟨rfl,hb⟩;have B1:Hid (Below W.heap.size W w1):=hb;clear hb HCO)
  exact bodyPost_ret (results_tmp2 rfl _ _ _) rfl ⟨rfl,B1.out⟩
theorem roots_c {b:Nat} {ps:List Plc} {W:World} (h:WAt b ps W) (hW:WI ps) (x:Int):Calls Tryz.prog 65 #[.pointer (some ⟨b,0,none⟩),.int .i64 x] W fun e w'=>(∃ v,e=.returned (.tuple #[v,.int .i64 (itE ps x)])∧w'.ownsRow W.heap.size 24 2 v (rtsR ps x).length (flatD (rtsR ps x)))∧Below W.heap.size W w':=by
  rcases it_cases ps x with ⟨h0,k,q,rfl,hq,hf,hr⟩|⟨hr,he⟩
  · rw [h0,hr]
    exact roots_yes h hW k q hq hf
  · rw [hr]
    exact (roots_no h hW x (by rcases he with e|e <;> rw [e] <;> decide)).mono fun e w' zz=>⟨⟨_,zz.1,World.ownsRow_nil _ _ _ _⟩,zz.2⟩
theorem rw8 {w:World} {n:Nat} {t:TypeId} {a0 a1 a2 a3 a4 a5 a6 a7:Value} (h:w.heap[n]?=some (.cells #[a0,a1,a2,a3,a4,a5,a6,a7] t (0,0))):w.cell? ⟨n,0,none⟩=some a0∧w.cell? ⟨n,1,none⟩=some a1∧w.cell? ⟨n,2,none⟩=some a2∧w.cell? ⟨n,3,none⟩=some a3∧w.cell? ⟨n,4,none⟩=some a4∧w.cell? ⟨n,5,none⟩=some a5∧w.cell? ⟨n,6,none⟩=some a6∧w.cell? ⟨n,7,none⟩=some a7∧(∀ k,w.frozen? ⟨n,k,none⟩=false)∧n<w.heap.size :=
  ⟨(cell_of_row w n 0 _ _ _ h).trans rfl,(cell_of_row w n 1 _ _ _ h).trans rfl,(cell_of_row w n 2 _ _ _ h).trans rfl,(cell_of_row w n 3 _ _ _ h).trans rfl,(cell_of_row w n 4 _ _ _ h).trans rfl,(cell_of_row w n 5 _ _ _ h).trans rfl,(cell_of_row w n 6 _ _ _ h).trans rfl,(cell_of_row w n 7 _ _ _ h).trans rfl,fun k=>frozen_of_row w n k _ _ h,(Array.getElem?_eq_some_iff.1 h).1⟩
theorem kp8 {V w:World} {N n:Nat} {t:TypeId} {a0 a1 a2 a3 a4 a5 a6 a7:Value} (hb:Below N V w) (hn:n<N) (h:V.heap[n]?=some (.cells #[a0,a1,a2,a3,a4,a5,a6,a7] t (0,0))):Hid (w.heap[n]?=some (.cells #[a0,a1,a2,a3,a4,a5,a6,a7] t (0,0)))∧w.cell? ⟨n,0,none⟩=some a0∧w.cell? ⟨n,1,none⟩=some a1∧w.cell? ⟨n,2,none⟩=some a2∧w.cell? ⟨n,3,none⟩=some a3∧w.cell? ⟨n,4,none⟩=some a4∧w.cell? ⟨n,5,none⟩=some a5∧w.cell? ⟨n,6,none⟩=some a6∧w.cell? ⟨n,7,none⟩=some a7∧(∀ k,w.frozen? ⟨n,k,none⟩=false)∧n<w.heap.size∧¬ n=w.heap.size:=by
  have h2:=(hb.block n hn).trans h
  obtain ⟨c0,c1,c2,c3,c4,c5,c6,c7,f,l⟩:=rw8 h2
  exact ⟨h2,c0,c1,c2,c3,c4,c5,c6,c7,f,l,by omega⟩
theorem st8 {w:World} {n:Nat} {t:TypeId} {a0 a1 a2 a3 a4 a5 a6 a7:Value} (h:w.heap[n]?=some (.cells #[a0,a1,a2,a3,a4,a5,a6,a7] t (0,0))) (v2 v3 v4:Value):(((w.setCell ⟨n,2,none⟩ v2).setCell ⟨n,3,none⟩ v3).setCell ⟨n,4,none⟩ v4).heap[n]?=some (.cells #[a0,a1,v2,v3,v4,a5,a6,a7] t (0,0)):=by
  have h0:=Go.Joins.block_setCell (i:=2) h v2
  have h1:=Go.Joins.block_setCell (i:=3) h0 v3
  have h2:=Go.Joins.block_setCell (i:=4) h1 v4
  exact h2.trans (by simp)
theorem ot8 {w:World} {m k:Nat} {v2 v3 v4:Value} (h:¬ k=m):(((w.setCell ⟨m,2,none⟩ v2).setCell ⟨m,3,none⟩ v3).setCell ⟨m,4,none⟩ v4).heap[k]?=w.heap[k]?:=by
  rw [heap_setCell_other _ _ _ _ (by simp;omega),heap_setCell_other _ _ _ _ (by simp;omega),heap_setCell_other _ _ _ _ (by simp;omega)]
set_option maxHeartbeats 2000000 in
theorem chI_n (W:World) (b:Nat) (r c i m1 m2 ee:Int) (HC:Hid (∀ w,Below W.heap.size W w→Calls Tryz.prog 76 #[.pointer (some ⟨b,0,none⟩),.int .i64 r,.agg #[.int .i64 c,.int .i64 i]] w fun e w'=>e=.returned (.tuple #[.agg #[.int .i64 m1,.int .i64 m2],.int .i64 ee])∧Below w.heap.size w w')):Calls Tryz.prog 315 #[.agg #[],.pointer (some ⟨b,0,none⟩),.int .i64 r,.agg #[.int .i64 c,.int .i64 i]] W fun e w'=>e=.returned (.tuple #[.agg #[.int .i64 m1,.int .i64 m2],.int .i64 ee])∧Below W.heap.size W w':=by
  go_enter Tryz.func315,Tryz.ntmps315
  go_wp2_with (first
    | (go_at_call 76;refine (HC.out _ (by repeat (first|exact Below.refl _ _|refine Below.setCell ?_ (by simp;try omega) _|refine Below.alloc ?_ (by simp;try omega) _|refine Below.drew ?_))).mono ?_;rintro e w1 ⟨rfl,hb⟩;have zzd:=kp2 (n:=W.heap.size+1+1) hb;(try clear zzB zz0 zz1 zzf zzL zzN);obtain ⟨zzB,zz0,zz1,zzf,zzL,zzN⟩:=zzd;have B1:Hid (Below W.heap.size W w1):=bstep (by repeat (first|exact Below.refl _ _|refine Below.setCell ?_ (by simp;try omega) _|refine Below.alloc ?_ (by simp;try omega) _|refine Below.drew ?_)) hb;clear hb HC))
  exact bodyPost_ret (v:=.tuple #[.agg #[.int .i64 m1,.int .i64 m2],.int .i64 ee]) (by simp [results,Tryz.results315,go_sem, *]) rfl ⟨rfl,(by repeat (first|refine Below.setCell ?_ (by simp;try omega) _|refine Below.alloc ?_ (by have:=B1.out.size;simp;try omega) _|refine Below.drew ?_|exact B1.out))⟩
set_option maxHeartbeats 2000000 in
theorem seI_n (W:World) (b:Nat) (r c i m1 m2 ee:Int) (HC:Hid (∀ w,Below W.heap.size W w→Calls Tryz.prog 315 #[.agg #[],.pointer (some ⟨b,0,none⟩),.int .i64 r,.agg #[.int .i64 c,.int .i64 i]] w fun e w'=>e=.returned (.tuple #[.agg #[.int .i64 m1,.int .i64 m2],.int .i64 ee])∧Below w.heap.size w w')):Calls Tryz.prog 132 #[.pointer (some ⟨b,0,none⟩),.int .i64 r,.agg #[.int .i64 c,.int .i64 i]] W fun e w'=>e=.returned (.tuple #[.agg #[.int .i64 m1,.int .i64 m2],.int .i64 ee])∧Below W.heap.size W w':=by
  go_enter Tryz.func132,Tryz.ntmps132
  go_wp2_with (first
    | (go_at_call 315;refine (HC.out _ (by repeat (first|exact Below.refl _ _|refine Below.setCell ?_ (by simp;try omega) _|refine Below.alloc ?_ (by simp;try omega) _|refine Below.drew ?_))).mono ?_;rintro e w1 ⟨rfl,hb⟩;have zzd:=kp2 (n:=W.heap.size+1) hb (by first|omega|(simp;try omega)) (hkeep (halloc2 _ _ (by simp)));(try clear zzB zz0 zz1 zzf zzL zzN);obtain ⟨zzB,zz0,zz1,zzf,zzL,zzN⟩:=zzd;have B1:Hid (Below W.heap.size W w1):=bstep (by repeat (first|exact Below.refl _ _|refine Below.setCell ?_ (by simp;try omega) _|refine Below.alloc ?_ (by simp;try omega) _|refine Below.drew ?_)) hb;clear hb HC))
  exact bodyPost_ret (v:=.tuple #[.agg #[.int .i64 m1,.int .i64 m2],.int .i64 ee]) (by simp [results,Tryz.results132,go_sem, *]) rfl ⟨rfl,(by repeat (first|refine Below.setCell ?_ (by simp;try omega) _|refine Below.alloc ?_ (by have:=B1.out.size;simp;try omega) _|refine Below.drew ?_|exact B1.out))⟩
theorem seI_c {b:Nat} {ps:List Plc} {W:World} (h:WAt b ps W) (hW:WI ps) (r c i:Int):Calls Tryz.prog 132 #[.pointer (some ⟨b,0,none⟩),.int .i64 r,.agg #[.int .i64 c,.int .i64 i]] W fun e w'=>e=.returned (.tuple #[.agg #[.int .i64 (itfI ps r (c,i)).1.1,.int .i64 (itfI ps r (c,i)).1.2],.int .i64 (itfI ps r (c,i)).2])∧Below W.heap.size W w' :=
  seI_n W b r c i _ _ _ (fun w hb=>chI_n w b r c i _ _ _ (fun _ hb2=>itf_c ((h.below hb).below hb2) hW r c i))
set_option maxHeartbeats 2000000 in
theorem chV_n (W:World) (b:Nat) (r c i m1 m2 ee:Int) (HC:Hid (∀ w,Below W.heap.size W w→Calls Tryz.prog 77 #[.pointer (some ⟨b,0,none⟩),.int .i64 r,.agg #[.int .i64 c,.int .i64 i]] w fun e w'=>e=.returned (.tuple #[.agg #[.int .i64 m1,.int .i64 m2],.int .i64 ee])∧Below w.heap.size w w')):Calls Tryz.prog 316 #[.agg #[],.pointer (some ⟨b,0,none⟩),.int .i64 r,.agg #[.int .i64 c,.int .i64 i]] W fun e w'=>e=.returned (.tuple #[.agg #[.int .i64 m1,.int .i64 m2],.int .i64 ee])∧Below W.heap.size W w':=by
  go_enter Tryz.func316,Tryz.ntmps316
  go_wp2_with (first
    | (go_at_call 77;refine (HC.out _ (by repeat (first|exact Below.refl _ _|refine Below.setCell ?_ (by simp;try omega) _|refine Below.alloc ?_ (by simp;try omega) _|refine Below.drew ?_))).mono ?_;rintro e w1 ⟨rfl,hb⟩;have zzd:=kp2 (n:=W.heap.size+1+1) hb;(try clear zzB zz0 zz1 zzf zzL zzN);obtain ⟨zzB,zz0,zz1,zzf,zzL,zzN⟩:=zzd;have B1:Hid (Below W.heap.size W w1):=bstep (by repeat (first|exact Below.refl _ _|refine Below.setCell ?_ (by simp;try omega) _|refine Below.alloc ?_ (by simp;try omega) _|refine Below.drew ?_)) hb;clear hb HC))
  exact bodyPost_ret (v:=.tuple #[.agg #[.int .i64 m1,.int .i64 m2],.int .i64 ee]) (by simp [results,Tryz.results316,go_sem, *]) rfl ⟨rfl,(by repeat (first|refine Below.setCell ?_ (by simp;try omega) _|refine Below.alloc ?_ (by have:=B1.out.size;simp;try omega) _|refine Below.drew ?_|exact B1.out))⟩
set_option maxHeartbeats 2000000 in
theorem seV_n (W:World) (b:Nat) (r c i m1 m2 ee:Int) (HC:Hid (∀ w,Below W.heap.size W w→Calls Tryz.prog 316 #[.agg #[],.pointer (some ⟨b,0,none⟩),.int .i64 r,.agg #[.int .i64 c,.int .i64 i]] w fun e w'=>e=.returned (.tuple #[.agg #[.int .i64 m1,.int .i64 m2],.int .i64 ee])∧Below w.heap.size w w')):Calls Tryz.prog 175 #[.pointer (some ⟨b,0,none⟩),.int .i64 r,.agg #[.int .i64 c,.int .i64 i]] W fun e w'=>e=.returned (.tuple #[.agg #[.int .i64 m1,.int .i64 m2],.int .i64 ee])∧Below W.heap.size W w':=by
  go_enter Tryz.func175,Tryz.ntmps175
  go_wp2_with (first
    | (go_at_call 316;refine (HC.out _ (by repeat (first|exact Below.refl _ _|refine Below.setCell ?_ (by simp;try omega) _|refine Below.alloc ?_ (by simp;try omega) _|refine Below.drew ?_))).mono ?_;rintro e w1 ⟨rfl,hb⟩;have zzd:=kp2 (n:=W.heap.size+1) hb (by first|omega|(simp;try omega)) (hkeep (halloc2 _ _ (by simp)));(try clear zzB zz0 zz1 zzf zzL zzN);obtain ⟨zzB,zz0,zz1,zzf,zzL,zzN⟩:=zzd;have B1:Hid (Below W.heap.size W w1):=bstep (by repeat (first|exact Below.refl _ _|refine Below.setCell ?_ (by simp;try omega) _|refine Below.alloc ?_ (by simp;try omega) _|refine Below.drew ?_)) hb;clear hb HC))
  exact bodyPost_ret (v:=.tuple #[.agg #[.int .i64 m1,.int .i64 m2],.int .i64 ee]) (by simp [results,Tryz.results175,go_sem, *]) rfl ⟨rfl,(by repeat (first|refine Below.setCell ?_ (by simp;try omega) _|refine Below.alloc ?_ (by have:=B1.out.size;simp;try omega) _|refine Below.drew ?_|exact B1.out))⟩
theorem seV_c {b:Nat} {ps:List Plc} {W:World} (h:WAt b ps W) (hW:WI ps) (r c i:Int):Calls Tryz.prog 175 #[.pointer (some ⟨b,0,none⟩),.int .i64 r,.agg #[.int .i64 c,.int .i64 i]] W fun e w'=>e=.returned (.tuple #[.agg #[.int .i64 (virI ps r (c,i)).1.1,.int .i64 (virI ps r (c,i)).1.2],.int .i64 (virI ps r (c,i)).2])∧Below W.heap.size W w' :=
  seV_n W b r c i _ _ _ (fun w hb=>chV_n w b r c i _ _ _ (fun _ hb2=>vir_c ((h.below hb).below hb2) hW r c i))
set_option maxHeartbeats 8000000 in
theorem entryOf_n (W:World) (b:Nat) (r c i a1 a2 e1 b1 b2 e2:Int) (HI:Hid (∀ w,Below W.heap.size W w→Calls Tryz.prog 132 #[.pointer (some ⟨b,0,none⟩),.int .i64 r,.agg #[.int .i64 c,.int .i64 i]] w fun e w'=>e=.returned (.tuple #[.agg #[.int .i64 a1,.int .i64 a2],.int .i64 e1])∧Below w.heap.size w w')) (HV:Hid (∀ w,Below W.heap.size W w→Calls Tryz.prog 175 #[.pointer (some ⟨b,0,none⟩),.int .i64 r,.agg #[.int .i64 c,.int .i64 i]] w fun e w'=>e=.returned (.tuple #[.agg #[.int .i64 b1,.int .i64 b2],.int .i64 e2])∧Below w.heap.size w w')):Calls Tryz.prog 129 #[.pointer (some ⟨b,0,none⟩),.int .i64 r,.agg #[.int .i64 c,.int .i64 i]] W fun e w'=>e=.returned (.agg #[.int .i64 c,.int .i64 i,.int .i64 a1,.int .i64 a2,.int .i64 e1,.int .i64 b1,.int .i64 b2,.int .i64 e2])∧Below W.heap.size W w':=by
  have BB:Hid (Below W.heap.size W W):=Below.refl _ _
  go_enter Tryz.func129,Tryz.ntmps129
  go_wp2_with (first
    | (go_at_call 132;refine (HI.out _ (by repeat (first|refine Below.setCell ?_ (by simp;try omega) _|refine Below.alloc ?_ (by have:=BB.out.size;simp;try omega) _|refine Below.drew ?_|exact BB.out))).mono ?_;rintro e w1 ⟨rfl,hb⟩;have mmd:=kp2 (n:=W.heap.size) hb;(try clear mmB mm0 mm1 mmf mmL mmN);obtain ⟨mmB,mm0,mm1,mmf,mmL,mmN⟩:=mmd;have rrd:=kp8 (n:=W.heap.size+1) hb (by first|omega|(simp;try omega)) (hkeep (halloc2 _ _ (by simp)));(try clear rrB rr0 rr1 rr2 rr3 rr4 rr5 rr6 rr7 rrf rrL rrN);obtain ⟨rrB,rr0,rr1,rr2,rr3,rr4,rr5,rr6,rr7,rrf,rrL,rrN⟩:=rrd;have eed:=kp8 (n:=W.heap.size+1+1) hb (by first|omega|(simp;try omega)) (halloc2 _ _ (by simp));(try clear eeB ee0 ee1 ee2 ee3 ee4 ee5 ee6 ee7 eef eeL eeN);obtain ⟨eeB,ee0,ee1,ee2,ee3,ee4,ee5,ee6,ee7,eef,eeL,eeN⟩:=eed;have BB2:Below W.heap.size W w1:=bstep (by repeat (first|refine Below.setCell ?_ (by simp;try omega) _|refine Below.alloc ?_ (by have:=BB.out.size;simp;try omega) _|refine Below.drew ?_|exact BB.out)) hb;clear BB;have BB:Hid (Below W.heap.size W w1):=BB2;clear BB2 hb HI)
    | (go_at_call 175;refine (HV.out _ (by repeat (first|refine Below.setCell ?_ (by simp;try omega) _|refine Below.alloc ?_ (by have:=BB.out.size;simp;try omega) _|refine Below.drew ?_|exact BB.out))).mono ?_;rintro e w2 ⟨rfl,hb⟩;have rrd:=kp8 (n:=W.heap.size+1) hb (by first|omega|(simp;try omega)) ((ot8 (by omega)).trans rrB.out);(try clear rrB rr0 rr1 rr2 rr3 rr4 rr5 rr6 rr7 rrf rrL rrN);obtain ⟨rrB,rr0,rr1,rr2,rr3,rr4,rr5,rr6,rr7,rrf,rrL,rrN⟩:=rrd;have eed:=kp8 (n:=W.heap.size+1+1) hb (by first|omega|(simp;try omega)) (st8 eeB.out _ _ _);(try clear eeB ee0 ee1 ee2 ee3 ee4 ee5 ee6 ee7 eef eeL eeN);obtain ⟨eeB,ee0,ee1,ee2,ee3,ee4,ee5,ee6,ee7,eef,eeL,eeN⟩:=eed;have BB2:Below W.heap.size W w2:=bstep (by repeat (first|refine Below.setCell ?_ (by simp;try omega) _|refine Below.alloc ?_ (by have:=BB.out.size;simp;try omega) _|refine Below.drew ?_|exact BB.out)) hb;clear BB;have BB:Hid (Below W.heap.size W w2):=BB2;clear BB2 hb HV))
  exact bodyPost_ret (v:=.agg #[.int .i64 c,.int .i64 i,.int .i64 a1,.int .i64 a2,.int .i64 e1,.int .i64 b1,.int .i64 b2,.int .i64 e2]) (by simp [results,Tryz.results129,go_sem, *]) rfl ⟨rfl,(by repeat (first|refine Below.setCell ?_ (by simp;try omega) _|refine Below.alloc ?_ (by have:=BB.out.size;simp;try omega) _|refine Below.drew ?_|exact BB.out))⟩
theorem entryOf_c {b:Nat} {ps:List Plc} {W:World} (h:WAt b ps W) (hW:WI ps) (r c i:Int):Calls Tryz.prog 129 #[.pointer (some ⟨b,0,none⟩),.int .i64 r,.agg #[.int .i64 c,.int .i64 i]] W fun e w'=>e=.returned (entP ps r (c,i)).agg∧Below W.heap.size W w' :=
  entryOf_n W b r c i _ _ _ _ _ _ (fun _ hb=>seI_c (h.below hb) hW r c i) (fun _ hb=>seV_c (h.below hb) hW r c i)
theorem Tryz.hinfoE:(Tryz.prog.info? 103).map (fun i=>(i.zero,i.size,i.bytes))=some (some (.agg #[.int .i64 0,.int .i64 0,.int .i64 0,.int .i64 0,.int .i64 0,.int .i64 0,.int .i64 0,.int .i64 0]),8,64):=by kernel_rfl
theorem own_at8 {w:World} {N T n s:Nat} {v:Value} {xs:List Value} (h:w.ownsRow N T s v n xs) (hn:0<n):∃ g cap,v=.slice (some ⟨g,0,none⟩) n cap∧N≤g∧g<w.heap.size∧∀ (j:Nat) (u:Value),xs[j]?=some u→w.cell? ⟨g,j,none⟩=some u:=by
  have hr:=own_rds h
  rcases h.2 with ⟨_,e⟩|⟨g,cap,cur,e1,e2,e3,e4⟩
  · omega
  · subst e1
    refine ⟨g,cap,rfl,e2,(Array.getElem?_eq_some_iff.1 e3).1,fun j u hj=>?_⟩
    rcases hr.val with ⟨e,_⟩|⟨bk,o,cap',e,_,_,_,h4⟩
    · cases e
    · injection e with ea _ _
      injection ea with ea
      injection ea with e5 e6 _
      subst e5 e6
      have:=h4 j u hj
      rwa [Nat.zero_add] at this
set_option maxHeartbeats 8000000 in
theorem build_w (W:World) (b:Nat) (x:Int) (R:List (Int×Int)) (n:Nat) (HR:Hid (R.length=n)) (hn:n≤301000000) (E:Int×Int→Ent)
    (HRT:Hid (Calls Tryz.prog 65 #[.pointer (some ⟨b,0,none⟩),.int .i64 x] W fun e w'=>(∃ v,e=.returned (.tuple #[v,.int .i64 0])∧w'.ownsRow W.heap.size 24 2 v n (flatD R))∧Below W.heap.size W w'))
    (HE:Hid (∀ (c i:Int) w,Below W.heap.size W w→Calls Tryz.prog 129 #[.pointer (some ⟨b,0,none⟩),.int .i64 x,.agg #[.int .i64 c,.int .i64 i]] w fun e w'=>e=.returned (E (c,i)).agg∧Below w.heap.size w w')) :
    Calls Tryz.prog 68 #[.pointer (some ⟨b,0,none⟩),.int .i64 x] W fun e w'=>(∃ v,e=.returned (.tuple #[v,.int .i64 0])∧w'.ownsRow W.heap.size 103 8 v (R.map E).length (flat8 (R.map E)))∧Below W.heap.size W w':=by
  obtain ⟨i0,hi0,hz0,hz1,hz2⟩:=info_parts Tryz.hinfoE
  go_enter Tryz.func68,Tryz.ntmps68
  go_wp2_with (first
    | (go_at_call 65;refine HRT.out.mono ?_;rintro e w1 ⟨⟨v,rfl,ho⟩,hb⟩;obtain ⟨ra,rc,rfl⟩:=ownv ho;have O1:Hid (w1.ownsRow W.heap.size 24 2 (.slice ra n rc) n (flatD R)):=ho;have B1:Hid (Below W.heap.size W w1):=hb;clear ho hb HRT))
  go_loopw [8,22] (fun sv kv wr=>∃ (i:Nat),kv=.int .i64 i∧i≤n∧Hid (wr.ownsRow w1.heap.size 103 8 sv ((R.take i).map E).length (flat8 ((R.take i).map E)))∧Hid (Below w1.heap.size w1 wr)) (fun _ kv _=>n - (intOf kv).toNat)
  case atStart=>exact ⟨0,rfl,Nat.zero_le _,World.ownsRow_nil _ _ _ _,Below.refl _ _⟩
  case round =>
    obtain ⟨i,rfl,hi,hO,hB⟩:=hrel
    by_cases hlt:i<n
    · have hiI:(i:Int)<(n:Int):=by omega
      obtain ⟨y,hy⟩:∃ y,R[i]?=some y:=⟨_,List.getElem?_eq_getElem (by rw [HR.out];exact hlt)⟩
      obtain ⟨g,c2,hform,_,hgl,hcs⟩:=own_at8 O1.out (by omega)
      injection hform with hca _ hcc
      subst hca hcc
      obtain ⟨f0,f1⟩:=flatD_at R i y hy
      have t0:=(hB.out.cell (p:=⟨g,i * 2,none⟩) hgl).trans (hcs _ _ f0)
      have t1:=(hB.out.cell (p:=⟨g,i * 2+1,none⟩) hgl).trans (hcs _ _ f1)
      have hst:(R.take (i+1)).map E=(R.take i).map E++[E y]:=by rw [List.take_add_one,hy,Option.toList_some,List.map_append];rfl
      have hal:((R.take i).map E).length≤301000000:=by rw [List.length_map,List.length_take];omega
      have HEy:=HE.out y.1 y.2
      obtain ⟨y1,y2⟩:=y
      simp only at t0 t1 HEy
      obtain ⟨L,hL⟩:∃ L,(R.take i).map E=L:=⟨_,rfl⟩
      rw [hL] at hst hal hO
      have HST:Hid ((R.take (i+1)).map E=L++[E (y1,y2)]):=hst
      generalize E (y1,y2)=ey at *
      obtain ⟨⟨r1,r2⟩,⟨m1,m2⟩,ee,⟨v1,v2⟩,ff⟩:=ey
      have HEH:Hid (∀ w,Below W.heap.size W w→Calls Tryz.prog 129 #[.pointer (some ⟨b,0,none⟩),.int .i64 x,.agg #[.int .i64 y1,.int .i64 y2]] w fun e w'=>e=.returned (.agg #[.int .i64 r1,.int .i64 r2,.int .i64 m1,.int .i64 m2,.int .i64 ee,.int .i64 v1,.int .i64 v2,.int .i64 ff])∧Below w.heap.size w w'):=HEy
      obtain ⟨va,vn,rfl⟩:=ownv hO.out
      clear hy f0 f1 hcs hL hst HEy HE HR
      go_wp2_with (first
        | (go_at_call 129;refine (HEH.out _ (bstep B1.out (hB.out.alloc hB.out.size _))).mono ?_;rintro e w3 ⟨rfl,hb⟩;have B3:Hid (Below w1.heap.size w1 w3):=bstep (hB.out.alloc hB.out.size _) hb;have O3:Hid (w3.ownsRow w1.heap.size 103 8 (.slice va L.length vn) L.length (flat8 L)):=rowBelow (hO.out.alloc _) hb;clear hb HEH)
        | (at_builtin;refine wpList_append_own _ rfl _ _ 94 rfl w1.heap.size 103 i0 (.agg #[.int .i64 0,.int .i64 0,.int .i64 0,.int .i64 0,.int .i64 0,.int .i64 0,.int .i64 0,.int .i64 0]) 8 64 Tryz.underlying94 hi0 hz0 hz1 hz2 rfl (by decide) (.slice va L.length vn) L.length (flat8 L) rfl (O3.out.alloc _) ⟨w3.heap.size,0,none⟩ 1 1 (Ent.cells ⟨(r1,r2),(m1,m2),ee,(v1,v2),ff⟩) rfl rfl ?c1 ?c2 ?c3 ?c4 ?c5 ?_))
      case c1 =>
        intro jj u hj
        rw [addr_add,Nat.zero_add]
        have hd:(w3.alloc (.cells #[.int .i64 r1,.int .i64 r2,.int .i64 m1,.int .i64 m2,.int .i64 ee,.int .i64 v1,.int .i64 v2,.int .i64 ff] 103)).heap[w3.heap.size]?=some (.cells #[.int .i64 r1,.int .i64 r2,.int .i64 m1,.int .i64 m2,.int .i64 ee,.int .i64 v1,.int .i64 v2,.int .i64 ff] 103 (0,0)):=halloc1 _ _
        rw [cell_of_row _ _ jj _ _ _ hd,← hj]
        simp only [Ent.cells,List.getElem?_toArray]
      case c2=>intro u hu;exact flat8_one [⟨(r1,r2),(m1,m2),ee,(v1,v2),ff⟩] u (by simpa [flat8] using hu)
      case c3=>unfold maxLen;omega
      case c4=>omega
      case c5=>have:=B3.out.size;simp;omega
      intro v' w4 hown hgrow _
      obtain ⟨va2,vn2,rfl⟩:=ownv hown
      have B4:Hid (Below w1.heap.size w1 w4):=by
        have hb1:Below w1.heap.size w1 (w3.alloc (.cells #[.int .i64 r1,.int .i64 r2,.int .i64 m1,.int .i64 m2,.int .i64 ee,.int .i64 v1,.int .i64 v2,.int .i64 ff] 103)):=B3.out.alloc B3.out.size _
        refine hb1.grown hgrow hb1.size (fun x hx=>?_)
        have:=(O3.out.lt x hx).1
        omega
      have O4:Hid (w4.ownsRow w1.heap.size 103 8 (.slice va2 (L.length+1) vn2) (L++([⟨(r1,r2),(m1,m2),ee,(v1,v2),ff⟩]:List Ent)).length (flat8 (L++([⟨(r1,r2),(m1,m2),ee,(v1,v2),ff⟩]:List Ent)))):=by
        rw [Hid,List.length_append,flat8_app]
        have e2:flat8 ([⟨(r1,r2),(m1,m2),ee,(v1,v2),ff⟩]:List Ent)=Ent.cells ⟨(r1,r2),(m1,m2),ee,(v1,v2),ff⟩:=by simp [flat8]
        rw [e2];exact hown
      go_wp2
      refine ⟨⟨i+1,by simp,by omega,?_,B4⟩,by simp [intOf];omega⟩
      rw [HST.out];exact O4
    · have e:i=n:=by omega
      subst e
      have HEE:Hid ((R.take i).map E=R.map E):=by rw [Hid,List.take_of_length_le (by rw [HR.out];exact Nat.le_refl _)]
      rw [HEE.out] at hO
      obtain ⟨va,vn,rfl⟩:=ownv hO.out
      go_wp2
      exact bodyPost_ret (results_tmp2 rfl _ _ _) rfl ⟨⟨_,rfl,Go.Joins.ownsRow_le hO.out B1.out.size⟩,B1.out.trans (hB.out.mono B1.out.size)⟩
theorem build_no {b:Nat} {ps:List Plc} {W:World} (h:WAt b ps W) (hW:WI ps) (x:Int) (hx:¬ itE ps x=0):Calls Tryz.prog 68 #[.pointer (some ⟨b,0,none⟩),.int .i64 x] W fun e w'=>e=.returned (.tuple #[.slice none 0 0,.int .i64 (itE ps x)])∧Below W.heap.size W w':=by
  have HCO:Hid (Calls Tryz.prog 65 #[.pointer (some ⟨b,0,none⟩),.int .i64 x] W fun e w'=>e=.returned (.tuple #[.slice none 0 0,.int .i64 (itE ps x)])∧Below W.heap.size W w'):=roots_no h hW x hx
  generalize itE ps x=E at *
  have hE:(E == 0)=false:=by simp [hx]
  clear h hW
  go_enter Tryz.func68,Tryz.ntmps68
  go_wp2_with (go_at_call 65;refine HCO.out.mono ?_;rintro e w1 ⟨rfl,hb⟩;have B1:Hid (Below W.heap.size W w1):=hb;clear hb HCO)
  exact bodyPost_ret (results_tmp2 rfl _ _ _) rfl ⟨rfl,B1.out⟩
theorem build14_c {b:Nat} {ps:List Plc} {W:World} (h:WAt b ps W) (hW:WI ps) (x:Int):Calls Tryz.prog 68 #[.pointer (some ⟨b,0,none⟩),.int .i64 x] W fun e w'=>(∃ v,e=.returned (.tuple #[v,.int .i64 (itE ps x)])∧w'.ownsRow W.heap.size 103 8 v (itT ps x).length (flat8 (itT ps x)))∧Below W.heap.size W w':=by
  rcases it_cases ps x with ⟨h0,k,q,rfl,hq,hf,hr⟩|⟨hr,he⟩
  · rw [h0,itT,hr]
    exact build_w W b (k:Int) (rtsP ps q) _ rfl (rts_len hW hq) (entP ps (k:Int)) (roots_yes h hW k q hq hf) (fun c i w hb=>entryOf_c (h.below hb) hW (k:Int) c i)
  · rw [itT,hr]
    exact (build_no h hW x (by rcases he with e|e <;> rw [e] <;> decide)).mono fun e w' zz=>⟨⟨_,zz.1,World.ownsRow_nil _ _ _ _⟩,zz.2⟩
theorem clss_keep {w w':World} {v:Value} {l:List Cls} (h:IsClss w v l) (hb:Below w.heap.size w w'):IsClss w' v l:=by
  obtain ⟨ao,cap,rfl,h1,h2,h3⟩:=h
  refine ⟨ao,cap,rfl,h1,h2,fun hne=>?_⟩
  obtain ⟨bk,o,e,hlt,hc⟩:=h3 hne
  refine ⟨bk,o,e,Nat.lt_of_lt_of_le hlt hb.size,fun k c hk=>?_⟩
  obtain ⟨vi,vm,h4,h5⟩:=hc k c hk
  exact ⟨vi,vm,fun j u hj=>(hb.cell hlt).trans (h4 j u hj),h5.keep hb⟩
theorem rts3:rtsR P3 0=[(0,1)]:=by kernel_rfl
theorem itE3:itE P3 0=0:=by kernel_rfl
theorem awake14_n (W:World) (HN:Hid (∀ w:World,Calls Tryz.prog 27 #[] w fun e w'=>∃ b,e=.returned (.pointer (some ⟨b,0,none⟩))∧WAt b P3 w'∧Below w.heap.size w w')) (HM:Hid (∀ (w:World) (b:Nat),WAt b P3 w→Calls Tryz.prog 65 #[.pointer (some ⟨b,0,none⟩),.int .i64 0] w fun e w'=>(∃ v,e=.returned (.tuple #[v,.int .i64 0])∧w'.ownsRow w.heap.size 24 2 v 1 (flatD [(0,1)]))∧Below w.heap.size w w')):Calls Tryz.prog 63 #[] W fun e w'=>e=.returned (.bool true)∧Below W.heap.size W w':=by
  go_enter Tryz.func63,Tryz.ntmps63
  go_wp2_with (first
    | (go_at_call 27;refine (HN.out _).mono ?_;rintro e w1 ⟨b,rfl,hw,hb⟩;have H1:Hid (WAt b P3 w1):=hw;have B1:Hid (Below W.heap.size W w1):=hb;clear hw hb HN)
    | (go_at_call 65;refine (HM.out _ _ H1.out).mono ?_;rintro e w2 ⟨⟨v,rfl,ho⟩,hb⟩;obtain ⟨g,cap,rfl,_,hgl,hcs⟩:=own_at8 ho (by decide);have t0:=hcs 0 _ rfl;have t1:=hcs 1 _ rfl;have B2:Hid (Below W.heap.size W w2):=bstep B1.out hb;clear hb ho hcs HM))
  all_goals go_ret
  all_goals exact ⟨retB (by simp),B2.out⟩
theorem awake14_c (W:World):Calls Tryz.prog 63 #[] W fun e w'=>e=.returned (.bool true)∧Below W.heap.size W w' :=
  awake14_n W (fun w=>(new_any w).mono fun e w' zz=>⟨_,zz.1,by obtain ⟨vp,pv,hw⟩:=zz.2.1;exact hw.wat,zz.2.2⟩) (fun w b h=>by
    have:=roots_c h wi3 0
    rw [rts3,itE3] at this
    exact this)
set_option maxHeartbeats 4000000 in
theorem built14_n (v:Value) (l:List Cls) (W:World) (h:IsClss W v l):Calls Tryz.prog 64 #[v] W fun e w'=>(∃ b,e=.returned (.pointer (some ⟨b,0,none⟩))∧∃ mb vp pv,HW w' W.heap.size b mb (wld l) vp pv)∧Below W.heap.size W w':=by
  have hCW:=clss_w h
  obtain ⟨ao,cap,rfl,h1,h2,h3⟩:=h
  unfold maxLen at h2
  obtain ⟨L,hL⟩:∃ L,l.length=L:=⟨_,rfl⟩
  have HL:Hid (l.length=L):=hL
  have HI:Hid _:=h3
  have HCW:Hid (∀ c∈l,ClsW c):=hCW
  rw [hL] at h1 ⊢
  clear hL h3 hCW
  have HN:Hid (∀ w:World,Calls Tryz.prog 27 #[] w fun e w'=>e=.returned (.pointer (some ⟨w.heap.size+1,0,none⟩))∧(∃ vp pv,HW w' w.heap.size (w.heap.size+1) w.heap.size P3 vp pv)∧Below w.heap.size w w'):=new_any
  go_enter Tryz.func64,Tryz.ntmps64
  go_wp2_with (first
    | (go_at_call 27;refine (HN.out _).mono ?_;rintro e w2 ⟨rfl,hw,hb⟩;have H2:Hid (∃ vp pv,HW w2 W.heap.size (W.heap.size+1) W.heap.size P3 vp pv):=hw;have B2:Hid (Below W.heap.size W w2):=hb;clear hb hw HN))
  go_loopw [4] (fun iv wr=>∃ (i:Nat),iv=.int .i64 i∧i≤L∧Hid (∃ vp pv,HW wr W.heap.size (W.heap.size+1) W.heap.size (wld (l.take i)) vp pv)∧Hid (Below W.heap.size W wr)) (fun iv _=>L - (intOf iv).toNat)
  case atStart=>exact ⟨0,rfl,Nat.zero_le _,H2,B2⟩
  case round =>
    clear H2 B2
    obtain ⟨i,rfl,hi,hHW,hB⟩:=hrel
    by_cases hlt:i<L
    · obtain ⟨c,hc⟩:∃ c,l[i]?=some c:=⟨_,List.getElem?_eq_getElem (by rw [HL.out];exact hlt)⟩
      obtain ⟨bk,o,rfl,hbk,hcl⟩:=HI.out (fun e=>by rw [e] at hc;simp at hc)
      obtain ⟨vi,vm,hcell,hin⟩:=hcl i c hc
      have bel:Below W.heap.size W wr:=hB.out
      have p0:wr.cell? ⟨bk,o+i * 6,none⟩=some (.string c.nm):=(bel.cell (p:=⟨bk,o+i * 6,none⟩) hbk).trans (hcell 0 _ rfl)
      have p1:wr.cell? ⟨bk,o+i * 6+1,none⟩=some (.string c.su):=(bel.cell (p:=⟨bk,o+i * 6+1,none⟩) hbk).trans (hcell 1 _ rfl)
      have p2:wr.cell? ⟨bk,o+i * 6+2,none⟩=some vi:=(bel.cell (p:=⟨bk,o+i * 6+2,none⟩) hbk).trans (hcell 2 _ rfl)
      have p3:wr.cell? ⟨bk,o+i * 6+3,none⟩=some (.int .i64 c.fl):=(bel.cell (p:=⟨bk,o+i * 6+3,none⟩) hbk).trans (hcell 3 _ rfl)
      have p4:wr.cell? ⟨bk,o+i * 6+4,none⟩=some (.int .i64 c.ld):=(bel.cell (p:=⟨bk,o+i * 6+4,none⟩) hbk).trans (hcell 4 _ rfl)
      have p5:wr.cell? ⟨bk,o+i * 6+5,none⟩=some vm:=(bel.cell (p:=⟨bk,o+i * 6+5,none⟩) hbk).trans (hcell 5 _ rfl)
      have hWI:WI (wld (l.take i)):=wld_wi _ (fun c hc=>HCW.out c (List.mem_of_mem_take hc))
      have HD:Hid (Calls Tryz.prog 28 #[.pointer (some ⟨W.heap.size+1,0,none⟩),.agg #[.string c.nm,.string c.su,vi,.int .i64 c.fl,.int .i64 c.ld,vm]] wr fun e w'=>(∃ u,e=.returned u)∧Hid (∃ vp pv,HW w' W.heap.size (W.heap.size+1) W.heap.size (wld (l.take (i+1))) vp pv)∧Hid (Below W.heap.size W w')):=by
        obtain ⟨vp,pv,hw⟩:=hHW.out
        refine (define_any W.heap.size (W.heap.size+1) W.heap.size _ vp pv c vi vm wr hw hB.out.size (hin.keep bel) hWI.nm).mono ?_
        rintro e w' ⟨rfl,hw',hb',_⟩
        rw [wld_at hc]
        exact ⟨⟨_,rfl⟩,hw',hB.out.trans hb'⟩
      clear hcl hcell hin hc bel hWI hHW hB HI
      go_wp2_with (go_at_call 28;refine HD.out.mono ?_;rintro e w3 ⟨⟨u3,rfl⟩,hw3,hb3⟩;clear HD)
      go_roundw
      case rel=>exact ⟨i+1,by go_num,by omega,hw3,hb3⟩
      case measure=>simp [intOf];omega
    · have e:i=L:=by omega
      subst e
      have HF:Hid (∃ mb vp pv,HW wr W.heap.size (W.heap.size+1) mb (wld l) vp pv):=by
        obtain ⟨vp,pv,hw⟩:=hHW.out
        rw [List.take_of_length_le (by rw [HL.out];exact Nat.le_refl _)] at hw
        exact ⟨_,_,_,hw⟩
      clear hHW HI
      go_wp2
      exact bodyPost_ret (results_tmp rfl _ _ _) rfl ⟨⟨_,rfl,HF.out⟩,hB.out⟩
theorem has10c (f:Int):hasI f 10=(hasI f 2||hasI f 8):=by
  have e10:bits .and .i64 f 10=IntKind.wrap .i64 (((BitVec.ofInt 64 f).toNat &&& 10:Nat):Int):=rfl
  have e2:bits .and .i64 f 2=IntKind.wrap .i64 (((BitVec.ofInt 64 f).toNat &&& 2:Nat):Int):=rfl
  have e8:bits .and .i64 f 8=IntKind.wrap .i64 (((BitVec.ofInt 64 f).toNat &&& 8:Nat):Int):=rfl
  have h:(BitVec.ofInt 64 f).toNat &&& 10=((BitVec.ofInt 64 f).toNat &&& 2) ||| ((BitVec.ofInt 64 f).toNat &&& 8):=by
    rw [← Nat.and_or_distrib_left];rfl
  unfold hasI
  rw [e10,e2,e8,h]
  have h2:(BitVec.ofInt 64 f).toNat &&& 2≤2:=Nat.and_le_right
  have h2':((BitVec.ofInt 64 f).toNat &&& 2) &&& 2=(BitVec.ofInt 64 f).toNat &&& 2:=by rw [Nat.and_assoc,Nat.and_self]
  have h8:(BitVec.ofInt 64 f).toNat &&& 8≤8:=Nat.and_le_right
  have h8':((BitVec.ofInt 64 f).toNat &&& 8) &&& 8=(BitVec.ofInt 64 f).toNat &&& 8:=by rw [Nat.and_assoc,Nat.and_self]
  generalize (BitVec.ofInt 64 f).toNat &&& 2=a at *
  generalize (BitVec.ofInt 64 f).toNat &&& 8=b at *
  have ha:a=0∨a=2:=by
    have:a=0∨a=1∨a=2:=by omega
    rcases this with rfl|rfl|rfl
    · exact .inl rfl
    · exact absurd h2' (by decide)
    · exact .inr rfl
  have hb:b=0∨b=8:=by
    have:b=0∨b=1∨b=2∨b=3∨b=4∨b=5∨b=6∨b=7∨b=8:=by omega
    rcases this with rfl|rfl|rfl|rfl|rfl|rfl|rfl|rfl|rfl
    · exact .inl rfl
    all_goals first|exact .inr rfl|exact absurd h8' (by decide)
  rcases ha with rfl|rfl <;> rcases hb with rfl|rfl <;> decide
end Go.Proofs.YthfifobokpfpkaaGreat
