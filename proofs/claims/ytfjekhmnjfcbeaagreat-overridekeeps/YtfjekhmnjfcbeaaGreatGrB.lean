import Derived.Test.YtfjekhmnjfcbeaaGreatRfB
import Derived.Test.YtfjekhmnjfcbeaaGreatOvC
import Derived.Test.YtfjekhmnjfcbeaaGreatHrZ
import Derived.Test.YtfjekhmnjfcbeaaGreatDlA
import Derived.Test.YtfjekhmnjfcbeaaGreatTys
import Derived.Test.YtfjekhmnjfcbeaaGreatTypesRef
import Derived.Test.YtfjekhmnjfcbeaaGreatRsA
import Derived.Test.YtfjekhmnjfcbeaaGreatSoD
import Derived.Test.YtfjekhmnjfcbeaaGreatOwnRefs
import Derived.Test.YtfjekhmnjfcbeaaGreatOwnC
import Derived.Test.YtfjekhmnjfcbeaaGreatHrR
import Derived.Deep.AppendLies
import Derived.Deep.DeepCutAuto
import Derived.Lib.SmallJoins
import Derived.Laws.IdiomStrings
import Derived.Deep.LoopGhost
import Derived.Deep.RegionHeld3
set_option maxRecDepth 100000
namespace Go.Proofs.YtfjekhmnjfcbeaaGreat
open Go.RowKit Go.Maps
theorem Tryz.hinfoP9:(Tryz.prog.info? 128).map (fun i=>(i.zero,i.size,i.bytes))=some (some (.agg #[.string ⟨#[]⟩,.string ⟨#[]⟩,.int .i64 0,.int .i64 0,.int .i64 0,.slice none 0 0,.int .i64 0,.int .i64 0,.pointer none]),9,104):=by kernel_rfl
theorem nskL_take {ps:List Plc} {nm ds:ByteArray} {a:Int} {l:List Nat} {j i:Nat} (h:l[j]?=some i):nskL ps nm ds a (l.take (j+1))=nskL ps nm ds a (l.take j)++(if (fndI ps (i:Int) nm ds).2=0∧(i:Int)≠a then [((i:Int),(fndI ps (i:Int) nm ds).1)] else []):=by
  rw [List.take_add_one,h,nskL_app]
  congr 1
theorem own9_one {w:World} {N g b:Nat} {x:P9} (hg:N≤g) (h:w.heap[g]?=some (.cells (x.cells b).toArray 128 (0,0))):w.ownsRow N 128 9 (.slice (some ⟨g,0,none⟩) [x].length 1) [x].length (flat9 b [x]) :=
  ⟨rfl,.inr ⟨g,1,_,rfl,hg,h,Nat.le_refl _,by unfold maxLen;omega,rfl,rfl⟩⟩
set_option maxHeartbeats 8000000 in
theorem nsk_c {b:Nat} {ps:List Plc} {W:World} (h:WAt b ps W) (hi:WI ps) (x:P9) (hx:OkP ps x) (v:Value) (l:List Nat) (hv:Rds W v l.length 1 (l.map numV)) (hn:l.length≤300) :
    Calls Tryz.prog 129 #[x.agg b,v] W fun e w'=>∃ (L:List P9) (g cap:Nat),e=.returned (.slice (some ⟨g,0,none⟩) L.length cap)∧(∀ y∈L,OkP ps y)∧L.map P9.id=x.id::nskL ps x.nm x.ds x.c l∧w'.ownsRow W.heap.size 128 9 (.slice (some ⟨g,0,none⟩) L.length cap) L.length (flat9 b L)∧Below W.heap.size W w':=by
  obtain ⟨i0,hi0,hz0,hz1,hz2⟩:=info_parts Tryz.hinfoP9
  have HX:Hid (OkP ps x):=hx
  obtain ⟨X,hX⟩:∃ X,X=x:=⟨_,rfl⟩
  obtain ⟨an,ad,af,al,az,aa,ak,ao,ac,ai⟩:=x
  have HXE:Hid (X=⟨an,ad,af,al,az,aa,ak,ao,ac,ai⟩):=hX
  simp only [P9.agg]
  obtain ⟨K,hK⟩:∃ K,l.length=K:=⟨_,rfl⟩
  have HK:Hid (l.length=K):=hK
  obtain ⟨va,vc,rfl⟩:=hv.slice
  have HV:Hid (Rds W (.slice va l.length vc) l.length 1 (l.map numV)):=hv
  have HU:Hid (WAt b ps (W.alloc (.cells #[.string an,.string ad,.int .i64 af,.int .i64 al,.int .i64 az,.slice aa ak ao,.int .i64 ac,.int .i64 ai,.pointer (some ⟨b,0,none⟩)] 128))):=h.below ((Below.refl _ _).alloc (Nat.le_refl _) _)
  have HA9:Hid ((W.alloc (.cells #[.string an,.string ad,.int .i64 af,.int .i64 al,.int .i64 az,.slice aa ak ao,.int .i64 ac,.int .i64 ai,.pointer (some ⟨b,0,none⟩)] 128)).heap[W.heap.size]?=some (.cells #[.string an,.string ad,.int .i64 af,.int .i64 al,.int .i64 az,.slice aa ak ao,.int .i64 ac,.int .i64 ai,.pointer (some ⟨b,0,none⟩)] 128 (0,0))):=halloc1 _ _
  have HI:Hid (WI ps):=hi
  rw [hK] at hn ⊢
  clear hv hK h hi hx hX
  go_enter Tryz.func129,Tryz.ntmps129
  go_wp2
  go_loopw [5,16] (fun sv kv wr=>∃ (j:Nat) (L:List P9) (g cap:Nat),sv=.slice (some ⟨g,0,none⟩) L.length cap∧kv=.int .i64 j∧j≤K∧Hid (∀ y∈L,OkP ps y)∧Hid (L.map P9.id=(ac,ai)::nskL ps an ad ac (l.take j))∧Hid (wr.ownsRow (W.heap.size+1) 128 9 (.slice (some ⟨g,0,none⟩) L.length cap) L.length (flat9 b L))∧Hid (Below (W.heap.size+1) (W.alloc (.cells #[.string an,.string ad,.int .i64 af,.int .i64 al,.int .i64 az,.slice aa ak ao,.int .i64 ac,.int .i64 ai,.pointer (some ⟨b,0,none⟩)] 128)) wr)) (fun _ kv _=>K - (intOf kv).toNat)
  case atStart=>exact ⟨0,[⟨an,ad,af,al,az,aa,ak,ao,ac,ai⟩],W.heap.size+1,1,rfl,rfl,Nat.zero_le _,(by intro y hy;rw [List.mem_singleton] at hy;subst hy;exact HX.out),rfl,own9_one (Nat.le_refl _) (halloc2 _ _ (by simp)),(Below.refl _ _).alloc (by simp) _⟩
  case round =>
    obtain ⟨j,L,g,cap,rfl,rfl,hj,hOk,hM,hO,hB⟩:=hrel
    have hNr:W.heap.size+1≤wr.heap.size:=by have:=hB.out.size;simpa using this
    have hLl:L.length≤301:=by
      have e:=congrArg List.length hM.out
      have:=nskL_len ps an ad ac (l.take j)
      rw [List.length_map,List.length_cons] at e
      rw [List.length_take] at this
      omega
    have BW:Hid (Below W.heap.size W wr):=((Below.refl _ W).alloc (Nat.le_refl _) _).trans (hB.out.mono (by omega))
    by_cases hlt:j<K
    · have hjl:j<l.length:=by rw [HK.out];exact hlt
      obtain ⟨i,hil⟩:∃ i,l[j]?=some i:=⟨_,List.getElem?_eq_getElem hjl⟩
      have hv2:=HV.out.keep BW.out
      obtain ⟨bk,oo,rfl,hbk,hcr⟩:=rds_num hv2 hil
      rw [HK.out] at hv2
      have HWr:Hid (WAt b ps wr):=HU.out.below (by simpa using hB.out)
      have HF:Hid (Calls Tryz.prog 88 #[.pointer (some ⟨b,0,none⟩),.int .i64 (i:Int),.string an,.string ad] wr fun e w'=>e=.returned (.tuple #[.int .i64 (fndI ps i an ad).1,.int .i64 (fndI ps i an ad).2])∧Below wr.heap.size wr w'):=find_c HWr.out HI.out.pb i an ad
      have hst:=nskL_take (ps:=ps) (nm:=an) (ds:=ad) (a:=ac) hil
      obtain ⟨q0,q1,q2,q3,q4,q5,q6,q7,q8,qL⟩:=row9 ((hB.out.block W.heap.size (by omega)).trans HA9.out)
      by_cases hF:(fndI ps i an ad).2=0
      · obtain ⟨hff,_⟩:=fnd_facts hF
        obtain ⟨m,hm⟩:∃ m,methI ps (i:Int) (fndI ps i an ad).1=some m:=⟨_,hff.choose_spec.1⟩
        have HR:Hid (∀ w,Below (W.heap.size+1) (W.alloc (.cells #[.string an,.string ad,.int .i64 af,.int .i64 al,.int .i64 az,.slice aa ak ao,.int .i64 ac,.int .i64 ai,.pointer (some ⟨b,0,none⟩)] 128)) w→Calls Tryz.prog 78 #[.pointer (some ⟨b,0,none⟩),.agg #[.int .i64 (i:Int),.int .i64 (fndI ps i an ad).1]] w fun e w'=>(∃ ma mk mo,e=.returned (.tuple #[.agg #[.string m.nm,.string m.ds,.int .i64 m.fl,.int .i64 m.lo,.int .i64 m.st,.slice ma mk mo,.int .i64 (i:Int),.int .i64 (fndI ps i an ad).1,.pointer (some ⟨b,0,none⟩)],.int .i64 0]))∧Below w.heap.size w w'):=fun w hb=>by
          have:=read_c (HU.out.below (by simpa using hb)) HI.out (i:Int) (fndI ps i an ad).1
          rw [hm] at this
          exact this
        have HM:Hid (methI ps (i:Int) (fndI ps i an ad).1=some m):=hm
        rw [hF] at hst HF
        clear hff hm hF hil hjl hv2
        generalize (fndI ps i an ad).1=F1 at *
        by_cases hic:(i:Int)=ac
        · have hst2:nskL ps an ad ac (List.take (j+1) l)=nskL ps an ad ac (List.take j l):=by rw [hst,if_neg (fun h=>h.2 hic),List.append_nil]
          have HST:Hid _:=hst2
          have hic2:((i:Int) == ac)=true:=by simp [hic]
          clear hst hst2 hic HR
          go_wp2_with (first
            | (go_at_call 88;refine HF.out.mono ?_;rintro e w2 ⟨rfl,hb⟩;have B2:Hid (Below (W.heap.size+1) (W.alloc (.cells #[.string an,.string ad,.int .i64 af,.int .i64 al,.int .i64 az,.slice aa ak ao,.int .i64 ac,.int .i64 ai,.pointer (some ⟨b,0,none⟩)] 128)) w2):=hB.out.trans (hb.mono hNr);have O2:Hid (w2.ownsRow (W.heap.size+1) 128 9 (.slice (some ⟨g,0,none⟩) L.length cap) L.length (flat9 b L)):=rowBelow hO.out hb;clear q0 q1 q2 q3 q4 q5 q6 q7 q8 qL;obtain ⟨q0,q1,q2,q3,q4,q5,q6,q7,q8,qL⟩:=row9 ((B2.out.block W.heap.size (by omega)).trans HA9.out);clear hb HF))
          refine ⟨⟨j+1,L,g,cap,rfl,by simp,by omega,hOk,?_,O2,B2⟩,by simp [intOf];omega⟩
          rw [HST.out];exact hM
        · have hst2:nskL ps an ad ac (List.take (j+1) l)=nskL ps an ad ac (List.take j l)++[((i:Int),F1)]:=by rw [hst,if_pos ⟨rfl,hic⟩]
          have HST:Hid _:=hst2
          have hic2:((i:Int) == ac)=false:=beq_eq_false_iff_ne.2 hic
          clear hst hst2
          go_wp2_with (first
            | (go_at_call 88;refine HF.out.mono ?_;rintro e w2 ⟨rfl,hb⟩;have B2:Hid (Below (W.heap.size+1) (W.alloc (.cells #[.string an,.string ad,.int .i64 af,.int .i64 al,.int .i64 az,.slice aa ak ao,.int .i64 ac,.int .i64 ai,.pointer (some ⟨b,0,none⟩)] 128)) w2):=hB.out.trans (hb.mono hNr);have O2:Hid (w2.ownsRow (W.heap.size+1) 128 9 (.slice (some ⟨g,0,none⟩) L.length cap) L.length (flat9 b L)):=rowBelow hO.out hb;clear q0 q1 q2 q3 q4 q5 q6 q7 q8 qL;obtain ⟨q0,q1,q2,q3,q4,q5,q6,q7,q8,qL⟩:=row9 ((B2.out.block W.heap.size (by omega)).trans HA9.out);clear hb HF)
            | (go_at_call 78;refine (HR.out _ B2.out).mono ?_;rintro e w3 ⟨⟨ma,mk,mo,rfl⟩,hb⟩;have B3:Hid (Below (W.heap.size+1) (W.alloc (.cells #[.string an,.string ad,.int .i64 af,.int .i64 al,.int .i64 az,.slice aa ak ao,.int .i64 ac,.int .i64 ai,.pointer (some ⟨b,0,none⟩)] 128)) w3):=B2.out.trans (hb.mono (Nat.le_trans (by simp) B2.out.size));have O3:Hid (w3.ownsRow (W.heap.size+1) 128 9 (.slice (some ⟨g,0,none⟩) L.length cap) L.length (flat9 b L)):=rowBelow O2.out hb;clear hb HR)
            | (at_builtin;refine wpList_append_lies _ rfl _ _ 131 rfl (W.heap.size+1) 128 i0 (.agg #[.string ⟨#[]⟩,.string ⟨#[]⟩,.int .i64 0,.int .i64 0,.int .i64 0,.slice none 0 0,.int .i64 0,.int .i64 0,.pointer none]) 9 104 Tryz.underlying131 hi0 hz0 hz1 hz2 rfl (by decide) (.slice (some ⟨g,0,none⟩) L.length cap) L.length (flat9 b L) rfl ((O3.out.alloc _).alloc _) ⟨w3.heap.size+1,0,none⟩ 1 1 (P9.cells b ⟨m.nm,m.ds,m.fl,m.lo,m.st,ma,mk,mo,(i:Int),F1⟩) rfl rfl ?c1 ?c2 (by omega) ?c3 ?c4 ?c5 _ rfl ?_))
          case c1 =>
            intro jj u hj
            rw [addr_add,Nat.zero_add]
            have hd:((w3.alloc (.cells #[.string m.nm,.string m.ds,.int .i64 m.fl,.int .i64 m.lo,.int .i64 m.st,.slice ma mk mo,.int .i64 (i:Int),.int .i64 F1,.pointer (some ⟨b,0,none⟩)] 128)).alloc (.cells #[.string m.nm,.string m.ds,.int .i64 m.fl,.int .i64 m.lo,.int .i64 m.st,.slice ma mk mo,.int .i64 (i:Int),.int .i64 F1,.pointer (some ⟨b,0,none⟩)] 128)).heap[w3.heap.size+1]?=some (.cells #[.string m.nm,.string m.ds,.int .i64 m.fl,.int .i64 m.lo,.int .i64 m.st,.slice ma mk mo,.int .i64 (i:Int),.int .i64 F1,.pointer (some ⟨b,0,none⟩)] 128 (0,0)):=halloc2 _ _ (by simp)
            rw [cell_of_row _ _ jj _ _ _ hd,← hj]
            simp only [P9.cells,List.getElem?_toArray]
          case c2=>intro u hu;exact flat9_one b [⟨m.nm,m.ds,m.fl,m.lo,m.st,ma,mk,mo,(i:Int),F1⟩] u (by rw [flat9_cons];exact List.mem_append_left _ hu)
          case c3=>unfold maxLen;omega
          case c4=>omega
          case c5=>have:=B3.out.size;simp at this;simp;omega
          intro g2 cap2 w4 hown hgrow _ _
          have B4:Hid (Below (W.heap.size+1) (W.alloc (.cells #[.string an,.string ad,.int .i64 af,.int .i64 al,.int .i64 az,.slice aa ak ao,.int .i64 ac,.int .i64 ai,.pointer (some ⟨b,0,none⟩)] 128)) w4):=by
            have hs3:W.heap.size+1≤w3.heap.size:=by have:=B3.out.size;simpa using this
            have hb1:Below (W.heap.size+1) (W.alloc (.cells #[.string an,.string ad,.int .i64 af,.int .i64 al,.int .i64 az,.slice aa ak ao,.int .i64 ac,.int .i64 ai,.pointer (some ⟨b,0,none⟩)] 128)) ((w3.alloc (.cells #[.string m.nm,.string m.ds,.int .i64 m.fl,.int .i64 m.lo,.int .i64 m.st,.slice ma mk mo,.int .i64 (i:Int),.int .i64 F1,.pointer (some ⟨b,0,none⟩)] 128)).alloc (.cells #[.string m.nm,.string m.ds,.int .i64 m.fl,.int .i64 m.lo,.int .i64 m.st,.slice ma mk mo,.int .i64 (i:Int),.int .i64 F1,.pointer (some ⟨b,0,none⟩)] 128)):=(B3.out.alloc hs3 _).alloc (by simp;omega) _
            refine hb1.grown hgrow (by simp;omega) (fun x hx=>?_)
            have:=(O3.out.lt x hx).1
            omega
          have O4:Hid (w4.ownsRow (W.heap.size+1) 128 9 (.slice (some ⟨g2,0,none⟩) (L.length+1) cap2) (L++([⟨m.nm,m.ds,m.fl,m.lo,m.st,ma,mk,mo,(i:Int),F1⟩]:List P9)).length (flat9 b (L++([⟨m.nm,m.ds,m.fl,m.lo,m.st,ma,mk,mo,(i:Int),F1⟩]:List P9)))):=by
            rw [Hid,List.length_append,flat9_app];exact hown
          go_wp2
          refine ⟨⟨j+1,L++([⟨m.nm,m.ds,m.fl,m.lo,m.st,ma,mk,mo,(i:Int),F1⟩]:List P9),g2,cap2,(by simp),by simp,by omega,?_,?_,?_,B4⟩,by simp [intOf];omega⟩
          · intro y hy
            rcases List.mem_append.1 hy with hy|hy
            · exact hOk.out y hy
            · rw [List.mem_singleton] at hy
              subst hy
              exact ⟨m,HM.out,rfl,rfl,rfl⟩
          · rw [Hid,List.map_append,hM.out,HST.out];rfl
          · have:=O4.out;rw [List.length_append] at this ⊢;exact this
      · have hst2:nskL ps an ad ac (List.take (j+1) l)=nskL ps an ad ac (List.take j l):=by rw [hst,if_neg (fun h=>hF h.1),List.append_nil]
        have HST:Hid _:=hst2
        generalize fndI ps i an ad=F at *
        obtain ⟨F1,F2⟩:=F
        simp only at HF hF
        clear hst hst2 hil hjl hv2
        go_wp2_with (first
          | (go_at_call 88;refine HF.out.mono ?_;rintro e w2 ⟨rfl,hb⟩;have B2:Hid (Below (W.heap.size+1) (W.alloc (.cells #[.string an,.string ad,.int .i64 af,.int .i64 al,.int .i64 az,.slice aa ak ao,.int .i64 ac,.int .i64 ai,.pointer (some ⟨b,0,none⟩)] 128)) w2):=hB.out.trans (hb.mono hNr);have O2:Hid (w2.ownsRow (W.heap.size+1) 128 9 (.slice (some ⟨g,0,none⟩) L.length cap) L.length (flat9 b L)):=rowBelow hO.out hb;clear q0 q1 q2 q3 q4 q5 q6 q7 q8 qL;obtain ⟨q0,q1,q2,q3,q4,q5,q6,q7,q8,qL⟩:=row9 ((B2.out.block W.heap.size (by omega)).trans HA9.out);clear hb HF))
        refine ⟨⟨j+1,L,g,cap,rfl,by simp,by omega,hOk,?_,O2,B2⟩,by simp [intOf];omega⟩
        rw [HST.out];exact hM
    · have e:j=K:=by omega
      subst e
      have HE:Hid (l.take j=l):=by rw [Hid,List.take_of_length_le (by rw [HK.out];exact Nat.le_refl _)]
      go_wp2
      refine bodyPost_ret (results_tmp rfl _ _ _) rfl ⟨L,g,cap,rfl,hOk.out,?_,Go.Joins.ownsRow_le hO.out (by omega),BW.out⟩
      rw [hM.out,HE.out];rfl
theorem any_pl {ps:List Plc} {x:P9} (hx:OkP ps x):∀ {l:List P9},(∀ y∈l,OkP ps y)→l.any (fun y=>plnB ps x.nm x.ds x.fl x.c y.nm y.ds y.fl y.c)=(l.map P9.id).any (plI ps x.id)
  | [],_=>rfl
  | y::r,h=>by
    rw [List.any_cons,List.map_cons,List.any_cons,hx.pl (h y List.mem_cons_self),any_pl hx (fun z hz=>h z (List.mem_cons_of_mem _ hz))]
structure GthR (ps:List Plc) (a:Int×Int) (L R:List P9) (k i:Nat):Prop where
  ki:k≤i
  iL:i≤L.length
  len:R.length=L.length
  suf:∀ n,i≤n→R[n]?=L[n]?
  ok:∀ y∈R,OkP ps y
  pre:(R.take k).map P9.id=gthL ps a ((L.take i).map P9.id)
theorem GthR.start {ps:List Plc} {a:Int×Int} {L:List P9} (h:∀ y∈L,OkP ps y):GthR ps a L L 0 0:=⟨Nat.le_refl _,Nat.zero_le _,rfl,fun _ _=>rfl,h,rfl⟩
theorem GthR.next {ps:List Plc} {a:Int×Int} {L R:List P9} {k i:Nat} (h:GthR ps a L R k i) {x:P9} (hx:L[i]?=some x):gthL ps a ((L.take (i+1)).map P9.id)=gth1 ps a ((R.take k).map P9.id) x.id:=by
  rw [List.take_add_one,hx,List.map_append,h.pre]
  exact gthL_snoc _ _ _ _
theorem GthR.mem {ps:List Plc} {a:Int×Int} {L R:List P9} {k i:Nat} (h:GthR ps a L R k i) {x:P9} (hx:L[i]?=some x):OkP ps x:=h.ok x (List.mem_of_getElem? ((h.suf i (Nat.le_refl _)).trans hx))
theorem GthR.keep {ps:List Plc} {a:Int×Int} {L R:List P9} {k i:Nat} (h:GthR ps a L R k i) {x:P9} (hx:L[i]?=some x) (hc:((eqI x.id a&&!stB x.fl)||(R.take k).any (fun y=>plnB ps x.nm x.ds x.fl x.c y.nm y.ds y.fl y.c))=true):GthR ps a L (R.take k++[x]++R.drop (k+1)) (k+1) (i+1):=by
  have hi:=(List.getElem?_eq_some_iff.1 hx).1
  have h1:=h.ki
  have h2:=h.len
  have hok:=h.mem hx
  have htl:(R.take k++[x]).length=k+1:=by simp;omega
  refine ⟨by omega,by omega,by simp;omega,fun n hn=>?_,fun y hy=>?_,?_⟩
  · rw [List.getElem?_append_right (by rw [htl];omega),htl,List.getElem?_drop,show k+1+(n - (k+1))=n by omega]
    exact h.suf n (by omega)
  · rcases List.mem_append.1 hy with hy|hy
    · rcases List.mem_append.1 hy with hy|hy
      · exact h.ok y (List.mem_of_mem_take hy)
      · rw [List.mem_singleton] at hy;subst hy;exact hok
    · exact h.ok y (List.mem_of_mem_drop hy)
  · rw [h.next hx,List.take_left' htl,gth1]
    rw [hok.st,any_pl hok (fun y hy=>h.ok y (List.mem_of_mem_take hy))] at hc
    rw [if_pos hc,List.map_append];rfl
theorem GthR.skip {ps:List Plc} {a:Int×Int} {L R:List P9} {k i:Nat} (h:GthR ps a L R k i) {x:P9} (hx:L[i]?=some x) (hc:((eqI x.id a&&!stB x.fl)||(R.take k).any (fun y=>plnB ps x.nm x.ds x.fl x.c y.nm y.ds y.fl y.c))=false):GthR ps a L R k (i+1):=by
  have hi:=(List.getElem?_eq_some_iff.1 hx).1
  have h1:=h.ki
  have hok:=h.mem hx
  refine ⟨by omega,by omega,h.len,fun n hn=>h.suf n (by omega),h.ok,?_⟩
  rw [h.next hx,gth1]
  rw [hok.st,any_pl hok (fun y hy=>h.ok y (List.mem_of_mem_take hy))] at hc
  rw [if_neg (by rw [hc];decide)]
theorem callPl (vs:Array Value) (w:World):(callFunc 84 vs).run Tryz.prog w=.ok (.enter 84 vs) w:=by simp [go_sem]
set_option maxHeartbeats 8000000 in
theorem gth_c {b:Nat} {ps:List Plc} {W:World} (h:WAt b ps W) (hi:WI ps) (x:P9) (hx:OkP ps x) (v:Value) (l:List Nat) (hv:Rds W v l.length 1 (l.map numV)) (hn:l.length≤300) :
    Calls Tryz.prog 79 #[x.agg b,v] W fun e w'=>∃ (L:List P9) (g cap:Nat),e=.returned (.slice (some ⟨g,0,none⟩) L.length cap)∧(∀ y∈L,OkP ps y)∧L.map P9.id=gthL ps x.id (x.id::nskL ps x.nm x.ds x.c l)∧w'.ownsRow W.heap.size 128 9 (.slice (some ⟨g,0,none⟩) L.length cap) L.length (flat9 b L)∧Below W.heap.size W w':=by
  obtain ⟨i0,hi0,hz0,hz1,hz2⟩:=info_parts Tryz.hinfoP9
  have HNS:Hid (∀ w,Below W.heap.size W w→Calls Tryz.prog 129 #[x.agg b,v] w fun e w'=>∃ (L:List P9) (g cap:Nat),e=.returned (.slice (some ⟨g,0,none⟩) L.length cap)∧(∀ y∈L,OkP ps y)∧L.map P9.id=x.id::nskL ps x.nm x.ds x.c l∧w'.ownsRow w.heap.size 128 9 (.slice (some ⟨g,0,none⟩) L.length cap) L.length (flat9 b L)∧Below w.heap.size w w'):=fun w hb=>nsk_c (h.below hb) hi x hx v l (hv.keep hb) hn
  have hll:(x.id::nskL ps x.nm x.ds x.c l).length≤301:=by
    have:=nskL_len ps x.nm x.ds x.c l
    rw [List.length_cons];omega
  generalize x.id::nskL ps x.nm x.ds x.c l=I at *
  obtain ⟨va,vc,rfl⟩:=hv.slice
  obtain ⟨an,ad,af,al,az,aa,ak,ao,ac,ai⟩:=x
  simp only [P9.agg,P9.id] at HNS ⊢
  have HU:Hid (WAt b ps (W.alloc (.cells #[.string an,.string ad,.int .i64 af,.int .i64 al,.int .i64 az,.slice aa ak ao,.int .i64 ac,.int .i64 ai,.pointer (some ⟨b,0,none⟩)] 128))):=h.below ((Below.refl _ _).alloc (Nat.le_refl _) _)
  have HA9:Hid ((W.alloc (.cells #[.string an,.string ad,.int .i64 af,.int .i64 al,.int .i64 az,.slice aa ak ao,.int .i64 ac,.int .i64 ai,.pointer (some ⟨b,0,none⟩)] 128)).heap[W.heap.size]?=some (.cells #[.string an,.string ad,.int .i64 af,.int .i64 al,.int .i64 az,.slice aa ak ao,.int .i64 ac,.int .i64 ai,.pointer (some ⟨b,0,none⟩)] 128 (0,0))):=halloc1 _ _
  have HI:Hid (WI ps):=hi
  clear hv h hi hx
  go_enter Tryz.func79,Tryz.ntmps79
  go_wp2_with (go_at_call 129;refine (HNS.out _ (by repeat (first|exact Below.refl _ _|refine Below.setCell ?_ (by simp;try omega) _|refine Below.alloc ?_ (by simp;try omega) _|refine Below.drew ?_))).mono ?_;rintro e w1 ⟨L,g,cap,rfl,hok,hid,ho,hb⟩;have OK1:Hid (∀ y∈L,OkP ps y):=hok;have ID1:Hid (L.map P9.id=I):=hid;have O1:Hid (w1.ownsRow (W.heap.size+1) 128 9 (.slice (some ⟨g,0,none⟩) L.length cap) L.length (flat9 b L)):=Go.Joins.ownsRow_le ho (by simp);have B1:Hid (Below (W.heap.size+1) (W.alloc (.cells #[.string an,.string ad,.int .i64 af,.int .i64 al,.int .i64 az,.slice aa ak ao,.int .i64 ac,.int .i64 ai,.pointer (some ⟨b,0,none⟩)] 128)) w1):=Below.mono hb (by simp);clear ho hb hok hid HNS)
  have hll2:L.length≤301:=by rw [← ID1.out,List.length_map] at hll;exact hll
  obtain ⟨K,hK⟩:∃ K,L.length=K:=⟨_,rfl⟩
  have HK:Hid (L.length=K):=hK
  rw [hK] at O1 hll2
  rw [hK]
  have hgN:W.heap.size+1≤g:=(O1.out.lt g rfl).1
  have hKc:K≤cap:=by
    rcases O1.out.2 with ⟨e,_⟩|⟨g',cap',cur,e,_,_,h3,_⟩
    · simp at e
    · simp only [Value.slice.injEq,Option.some.injEq,Addr.mk.injEq,and_true,true_and] at e
      obtain ⟨rfl,rfl⟩:=e
      exact h3
  clear hK hll
  go_wp2
  go_loopw [6,16] (fun sv kv wr=>∃ (i k:Nat) (R:List P9),sv=.slice (some ⟨g,0,none⟩) k cap∧kv=.int .i64 i∧k≤i∧i≤K∧Hid (GthR ps (ac,ai) L R k i)∧Hid (wr.ownsRow (W.heap.size+1) 128 9 (.slice (some ⟨g,0,none⟩) K cap) K (flat9 b R))∧Hid (Below (W.heap.size+1) (W.alloc (.cells #[.string an,.string ad,.int .i64 af,.int .i64 al,.int .i64 az,.slice aa ak ao,.int .i64 ac,.int .i64 ai,.pointer (some ⟨b,0,none⟩)] 128)) wr)) (fun _ kv _=>K - (intOf kv).toNat)
  case atStart=>exact ⟨0,0,L,rfl,rfl,Nat.le_refl _,Nat.zero_le _,GthR.start OK1.out,O1,B1⟩
  case round =>
    obtain ⟨i,k,R,rfl,rfl,hki,hiK,hG,hO,hB⟩:=hrel
    have hNr:W.heap.size+1≤wr.heap.size:=by have:=hB.out.size;simpa using this
    by_cases hlt:i<K
    · obtain ⟨x,hx⟩:∃ x,L[i]?=some x:=⟨_,List.getElem?_eq_getElem (by rw [HK.out];exact hlt)⟩
      obtain ⟨e0,e1,e2,e3,e4,e5,e6,e7,e8,_⟩:=row9_cells hO.out ((hG.out.suf i (Nat.le_refl _)).trans hx)
      obtain ⟨q0,q1,q2,q3,q4,q5,q6,q7,q8,qL⟩:=row9 ((hB.out.block W.heap.size (by omega)).trans HA9.out)
      have hRK:R.length=K:=hG.out.len.trans HK.out
      have HKE:Hid (((eqI x.id (ac,ai)&&!stB x.fl)||(R.take k).any (fun y=>plnB ps x.nm x.ds x.fl x.c y.nm y.ds y.fl y.c))=true→GthR ps (ac,ai) L (R.take k++[x]++R.drop (k+1)) (k+1) (i+1)):=hG.out.keep hx
      have HSK:Hid (((eqI x.id (ac,ai)&&!stB x.fl)||(R.take k).any (fun y=>plnB ps x.nm x.ds x.fl x.c y.nm y.ds y.fl y.c))=false→GthR ps (ac,ai) L R k (i+1)):=hG.out.skip hx
      have HC9:Hid (∀ w,Below wr.heap.size wr w→Calls Tryz.prog 86 #[.slice (some ⟨g,0,none⟩) k cap,.func (.func 84) #[x.agg b] #[]] w fun e w'=>e=.returned (.bool ((R.take k).any (fun y=>plnB ps x.nm x.ds x.fl x.c y.nm y.ds y.fl y.c)))∧Below w.heap.size w w'):=fun w hb=>by
        have hcut:=row_cut (rowBelow hO.out hb) (show k≤K by omega)
        rw [flat9_take] at hcut
        have hkl:(R.take k).length=k:=by rw [List.length_take];omega
        have:=con9_any 84 callPl (x.agg b) (fun y=>plnB ps x.nm x.ds x.fl x.c y.nm y.ds y.fl y.c) (W.heap.size+1) b (R.take k) (.slice (some ⟨g,0,none⟩) k cap) w (by rw [hkl];exact hcut) (by rw [hkl];omega) (fun y _ w2 hb2=>plain_c (HU.out.below (by have:=(hB.out.trans (hb.mono hNr)).trans (hb2.mono (Nat.le_trans hNr hb.size));simpa using this)) HI.out x.nm x.ds x.fl x.lo x.st x.sa x.sk x.so x.c x.i y.nm y.ds y.fl y.lo y.st y.sa y.sk y.so y.c y.i)
        exact this
      have HI9:Hid (∀ w:World,Calls Tryz.prog 87 #[x.agg b,.agg #[.string an,.string ad,.int .i64 af,.int .i64 al,.int .i64 az,.slice aa ak ao,.int .i64 ac,.int .i64 ai,.pointer (some ⟨b,0,none⟩)]] w fun e w'=>e=.returned (.bool (eqI x.id (ac,ai)))∧Below w.heap.size w w'):=fun w=>is_c b x.nm x.ds x.fl x.lo x.st x.sa x.sk x.so x.c x.i an ad af al az aa ak ao ac ai w
      have HS9:Hid (∀ w:World,Calls Tryz.prog 130 #[x.agg b] w fun e w'=>e=.returned (.bool (stB x.fl))∧Below w.heap.size w w'):=fun w=>isStatic_c b x.nm x.ds x.fl x.lo x.st x.sa x.sk x.so x.c x.i w
      generalize eqI x.id (ac,ai)=E at *
      generalize (R.take k).any (fun y=>plnB ps x.nm x.ds x.fl x.c y.nm y.ds y.fl y.c)=Q at *
      obtain ⟨xn,xd,xf,xl,xs,xa,xk,xo,xc,xi⟩:=x
      simp only [P9.agg] at e0 e1 e2 e3 e4 e5 e6 e7 e8 HC9 HI9 HS9 HKE HSK
      generalize stB xf=S at *
      have HX9:Hid ((wr.alloc (.cells #[.string xn,.string xd,.int .i64 xf,.int .i64 xl,.int .i64 xs,.slice xa xk xo,.int .i64 xc,.int .i64 xi,.pointer (some ⟨b,0,none⟩)] 128)).heap[wr.heap.size]?=some (.cells #[.string xn,.string xd,.int .i64 xf,.int .i64 xl,.int .i64 xs,.slice xa xk xo,.int .i64 xc,.int .i64 xi,.pointer (some ⟨b,0,none⟩)] 128 (0,0))):=halloc1 _ _
      clear hx
      cases E
      case false =>
        clear HS9
        cases Q
        case false =>
          go_wp2_with (first
            | (go_at_call 87;refine (HI9.out _).mono ?_;rintro e w2 ⟨rfl,hb⟩;have Bw2:Hid (Below (wr.heap.size+1) (wr.alloc (.cells #[.string xn,.string xd,.int .i64 xf,.int .i64 xl,.int .i64 xs,.slice xa xk xo,.int .i64 xc,.int .i64 xi,.pointer (some ⟨b,0,none⟩)] 128)) w2):=Below.mono hb (by simp);have Ow2:Hid (w2.ownsRow (W.heap.size+1) 128 9 (.slice (some ⟨g,0,none⟩) K cap) K (flat9 b R)):=rowBelow (hO.out.alloc _) hb;obtain ⟨r0,r1,r2,r3,r4,r5,r6,r7,r8,rL⟩:=row9 ((Bw2.out.block wr.heap.size (by omega)).trans HX9.out);clear hb HI9)
            | (go_at_call 86;refine (HC9.out _ (Below.trans ((Below.refl _ _).alloc (Nat.le_refl _) _) (Bw2.out.mono (by omega)))).mono ?_;rintro e w3 ⟨rfl,hb⟩;have Bw3:Hid (Below (wr.heap.size+1) (wr.alloc (.cells #[.string xn,.string xd,.int .i64 xf,.int .i64 xl,.int .i64 xs,.slice xa xk xo,.int .i64 xc,.int .i64 xi,.pointer (some ⟨b,0,none⟩)] 128)) w3):=Bw2.out.trans (hb.mono (Nat.le_trans (by simp) Bw2.out.size));have Ow3:Hid (w3.ownsRow (W.heap.size+1) 128 9 (.slice (some ⟨g,0,none⟩) K cap) K (flat9 b R)):=rowBelow Ow2.out hb;clear r0 r1 r2 r3 r4 r5 r6 r7 r8 rL;obtain ⟨r0,r1,r2,r3,r4,r5,r6,r7,r8,rL⟩:=row9 ((Bw3.out.block wr.heap.size (by omega)).trans HX9.out);clear hb))
          have hsz:wr.heap.size+1≤w3.heap.size:=by have:=Bw3.out.size;simpa using this
          have B8:Hid (Below (W.heap.size+1) (W.alloc (.cells #[.string an,.string ad,.int .i64 af,.int .i64 al,.int .i64 az,.slice aa ak ao,.int .i64 ac,.int .i64 ai,.pointer (some ⟨b,0,none⟩)] 128)) w3):=(hB.out.alloc hNr _).trans (Bw3.out.mono (by omega))
          refine ⟨⟨i+1,k,R,rfl,by simp,by omega,by omega,HSK.out rfl,Ow3,B8⟩,by simp [intOf];omega⟩
        case true =>
          go_wp2_with (first
            | (go_at_call 87;refine (HI9.out _).mono ?_;rintro e w2 ⟨rfl,hb⟩;have Bw2:Hid (Below (wr.heap.size+1) (wr.alloc (.cells #[.string xn,.string xd,.int .i64 xf,.int .i64 xl,.int .i64 xs,.slice xa xk xo,.int .i64 xc,.int .i64 xi,.pointer (some ⟨b,0,none⟩)] 128)) w2):=Below.mono hb (by simp);have Ow2:Hid (w2.ownsRow (W.heap.size+1) 128 9 (.slice (some ⟨g,0,none⟩) K cap) K (flat9 b R)):=rowBelow (hO.out.alloc _) hb;obtain ⟨r0,r1,r2,r3,r4,r5,r6,r7,r8,rL⟩:=row9 ((Bw2.out.block wr.heap.size (by omega)).trans HX9.out);clear hb HI9)
            | (go_at_call 86;refine (HC9.out _ (Below.trans ((Below.refl _ _).alloc (Nat.le_refl _) _) (Bw2.out.mono (by omega)))).mono ?_;rintro e w3 ⟨rfl,hb⟩;have Bw3:Hid (Below (wr.heap.size+1) (wr.alloc (.cells #[.string xn,.string xd,.int .i64 xf,.int .i64 xl,.int .i64 xs,.slice xa xk xo,.int .i64 xc,.int .i64 xi,.pointer (some ⟨b,0,none⟩)] 128)) w3):=Bw2.out.trans (hb.mono (Nat.le_trans (by simp) Bw2.out.size));have Ow3:Hid (w3.ownsRow (W.heap.size+1) 128 9 (.slice (some ⟨g,0,none⟩) K cap) K (flat9 b R)):=rowBelow Ow2.out hb;clear r0 r1 r2 r3 r4 r5 r6 r7 r8 rL;obtain ⟨r0,r1,r2,r3,r4,r5,r6,r7,r8,rL⟩:=row9 ((Bw3.out.block wr.heap.size (by omega)).trans HX9.out);clear hb)
            | (at_builtin;refine wpList_append_over _ rfl _ _ 131 rfl (W.heap.size+1) 128 i0 9 Tryz.underlying131 hi0 hz1 g k K cap (flat9 b R) rfl (Ow3.out.alloc _) ⟨w3.heap.size,0,none⟩ 1 1 (P9.cells b ⟨xn,xd,xf,xl,xs,xa,xk,xo,xc,xi⟩) rfl rfl ?c1 ?c2 (by omega) ?_))
          case c1 =>
            intro jj u hj
            rw [addr_add,Nat.zero_add]
            have hd:(w3.alloc (.cells #[.string xn,.string xd,.int .i64 xf,.int .i64 xl,.int .i64 xs,.slice xa xk xo,.int .i64 xc,.int .i64 xi,.pointer (some ⟨b,0,none⟩)] 128)).heap[w3.heap.size]?=some (.cells #[.string xn,.string xd,.int .i64 xf,.int .i64 xl,.int .i64 xs,.slice xa xk xo,.int .i64 xc,.int .i64 xi,.pointer (some ⟨b,0,none⟩)] 128 (0,0)):=halloc1 _ _
            rw [cell_of_row _ _ jj _ _ _ hd,← hj]
            simp only [P9.cells,List.getElem?_toArray]
          case c2=>intro u hu;exact flat9_one b [⟨xn,xd,xf,xl,xs,xa,xk,xo,xc,xi⟩] u (by rw [flat9_cons];exact List.mem_append_left _ hu)
          intro w8 hown hgrow
          have hGK:=hG.out.len
          have O8:Hid (w8.ownsRow (W.heap.size+1) 128 9 (.slice (some ⟨g,0,none⟩) K cap) K (flat9 b (R.take k++[(⟨xn,xd,xf,xl,xs,xa,xk,xo,xc,xi⟩:P9)]++R.drop (k+1)))):=by
            rw [Hid,flat9_app,flat9_app,← flat9_take,← flat9_drop]
            have e:flat9 b [(⟨xn,xd,xf,xl,xs,xa,xk,xo,xc,xi⟩:P9)]=P9.cells b ⟨xn,xd,xf,xl,xs,xa,xk,xo,xc,xi⟩:=by rw [flat9_cons];exact List.append_nil _
            rw [e,List.append_assoc];exact hown
          have hsz:wr.heap.size+1≤w3.heap.size:=by have:=Bw3.out.size;simpa using this
          have B8:Hid (Below (W.heap.size+1) (W.alloc (.cells #[.string an,.string ad,.int .i64 af,.int .i64 al,.int .i64 az,.slice aa ak ao,.int .i64 ac,.int .i64 ai,.pointer (some ⟨b,0,none⟩)] 128)) w8):=by
            have hb1:Below (W.heap.size+1) (W.alloc (.cells #[.string an,.string ad,.int .i64 af,.int .i64 al,.int .i64 az,.slice aa ak ao,.int .i64 ac,.int .i64 ai,.pointer (some ⟨b,0,none⟩)] 128)) (w3.alloc (.cells #[.string xn,.string xd,.int .i64 xf,.int .i64 xl,.int .i64 xs,.slice xa xk xo,.int .i64 xc,.int .i64 xi,.pointer (some ⟨b,0,none⟩)] 128)):=((hB.out.alloc hNr _).trans (Bw3.out.mono (by omega))).alloc (by omega) _
            refine hb1.grown hgrow (by simp;omega) (fun x hx=>?_)
            cases hx;exact hgN
          go_wp2
          refine ⟨⟨i+1,k+1,R.take k++[(⟨xn,xd,xf,xl,xs,xa,xk,xo,xc,xi⟩:P9)]++R.drop (k+1),rfl,by simp,by omega,by omega,HKE.out rfl,O8,B8⟩,by simp [intOf];omega⟩
      case true =>
        cases S
        case false =>
          clear HC9
          go_wp2_with (first
            | (go_at_call 87;refine (HI9.out _).mono ?_;rintro e w2 ⟨rfl,hb⟩;have Bw2:Hid (Below (wr.heap.size+1) (wr.alloc (.cells #[.string xn,.string xd,.int .i64 xf,.int .i64 xl,.int .i64 xs,.slice xa xk xo,.int .i64 xc,.int .i64 xi,.pointer (some ⟨b,0,none⟩)] 128)) w2):=Below.mono hb (by simp);have Ow2:Hid (w2.ownsRow (W.heap.size+1) 128 9 (.slice (some ⟨g,0,none⟩) K cap) K (flat9 b R)):=rowBelow (hO.out.alloc _) hb;obtain ⟨r0,r1,r2,r3,r4,r5,r6,r7,r8,rL⟩:=row9 ((Bw2.out.block wr.heap.size (by omega)).trans HX9.out);clear hb HI9)
            | (go_at_call 130;refine (HS9.out _).mono ?_;rintro e w3 ⟨rfl,hb⟩;have Bw3:Hid (Below (wr.heap.size+1) (wr.alloc (.cells #[.string xn,.string xd,.int .i64 xf,.int .i64 xl,.int .i64 xs,.slice xa xk xo,.int .i64 xc,.int .i64 xi,.pointer (some ⟨b,0,none⟩)] 128)) w3):=Bw2.out.trans (hb.mono (Nat.le_trans (by simp) Bw2.out.size));have Ow3:Hid (w3.ownsRow (W.heap.size+1) 128 9 (.slice (some ⟨g,0,none⟩) K cap) K (flat9 b R)):=rowBelow Ow2.out hb;clear r0 r1 r2 r3 r4 r5 r6 r7 r8 rL;obtain ⟨r0,r1,r2,r3,r4,r5,r6,r7,r8,rL⟩:=row9 ((Bw3.out.block wr.heap.size (by omega)).trans HX9.out);clear hb)
            | (at_builtin;refine wpList_append_over _ rfl _ _ 131 rfl (W.heap.size+1) 128 i0 9 Tryz.underlying131 hi0 hz1 g k K cap (flat9 b R) rfl (Ow3.out.alloc _) ⟨w3.heap.size,0,none⟩ 1 1 (P9.cells b ⟨xn,xd,xf,xl,xs,xa,xk,xo,xc,xi⟩) rfl rfl ?c1 ?c2 (by omega) ?_))
          case c1 =>
            intro jj u hj
            rw [addr_add,Nat.zero_add]
            have hd:(w3.alloc (.cells #[.string xn,.string xd,.int .i64 xf,.int .i64 xl,.int .i64 xs,.slice xa xk xo,.int .i64 xc,.int .i64 xi,.pointer (some ⟨b,0,none⟩)] 128)).heap[w3.heap.size]?=some (.cells #[.string xn,.string xd,.int .i64 xf,.int .i64 xl,.int .i64 xs,.slice xa xk xo,.int .i64 xc,.int .i64 xi,.pointer (some ⟨b,0,none⟩)] 128 (0,0)):=halloc1 _ _
            rw [cell_of_row _ _ jj _ _ _ hd,← hj]
            simp only [P9.cells,List.getElem?_toArray]
          case c2=>intro u hu;exact flat9_one b [⟨xn,xd,xf,xl,xs,xa,xk,xo,xc,xi⟩] u (by rw [flat9_cons];exact List.mem_append_left _ hu)
          intro w8 hown hgrow
          have hGK:=hG.out.len
          have O8:Hid (w8.ownsRow (W.heap.size+1) 128 9 (.slice (some ⟨g,0,none⟩) K cap) K (flat9 b (R.take k++[(⟨xn,xd,xf,xl,xs,xa,xk,xo,xc,xi⟩:P9)]++R.drop (k+1)))):=by
            rw [Hid,flat9_app,flat9_app,← flat9_take,← flat9_drop]
            have e:flat9 b [(⟨xn,xd,xf,xl,xs,xa,xk,xo,xc,xi⟩:P9)]=P9.cells b ⟨xn,xd,xf,xl,xs,xa,xk,xo,xc,xi⟩:=by rw [flat9_cons];exact List.append_nil _
            rw [e,List.append_assoc];exact hown
          have hsz:wr.heap.size+1≤w3.heap.size:=by have:=Bw3.out.size;simpa using this
          have B8:Hid (Below (W.heap.size+1) (W.alloc (.cells #[.string an,.string ad,.int .i64 af,.int .i64 al,.int .i64 az,.slice aa ak ao,.int .i64 ac,.int .i64 ai,.pointer (some ⟨b,0,none⟩)] 128)) w8):=by
            have hb1:Below (W.heap.size+1) (W.alloc (.cells #[.string an,.string ad,.int .i64 af,.int .i64 al,.int .i64 az,.slice aa ak ao,.int .i64 ac,.int .i64 ai,.pointer (some ⟨b,0,none⟩)] 128)) (w3.alloc (.cells #[.string xn,.string xd,.int .i64 xf,.int .i64 xl,.int .i64 xs,.slice xa xk xo,.int .i64 xc,.int .i64 xi,.pointer (some ⟨b,0,none⟩)] 128)):=((hB.out.alloc hNr _).trans (Bw3.out.mono (by omega))).alloc (by omega) _
            refine hb1.grown hgrow (by simp;omega) (fun x hx=>?_)
            cases hx;exact hgN
          go_wp2
          refine ⟨⟨i+1,k+1,R.take k++[(⟨xn,xd,xf,xl,xs,xa,xk,xo,xc,xi⟩:P9)]++R.drop (k+1),rfl,by simp,by omega,by omega,HKE.out rfl,O8,B8⟩,by simp [intOf];omega⟩
        case true =>
          cases Q
          case false =>
            go_wp2_with (first
              | (go_at_call 87;refine (HI9.out _).mono ?_;rintro e w2 ⟨rfl,hb⟩;have Bw2:Hid (Below (wr.heap.size+1) (wr.alloc (.cells #[.string xn,.string xd,.int .i64 xf,.int .i64 xl,.int .i64 xs,.slice xa xk xo,.int .i64 xc,.int .i64 xi,.pointer (some ⟨b,0,none⟩)] 128)) w2):=Below.mono hb (by simp);have Ow2:Hid (w2.ownsRow (W.heap.size+1) 128 9 (.slice (some ⟨g,0,none⟩) K cap) K (flat9 b R)):=rowBelow (hO.out.alloc _) hb;obtain ⟨r0,r1,r2,r3,r4,r5,r6,r7,r8,rL⟩:=row9 ((Bw2.out.block wr.heap.size (by omega)).trans HX9.out);clear hb HI9)
              | (go_at_call 130;refine (HS9.out _).mono ?_;rintro e w3 ⟨rfl,hb⟩;have Bw3:Hid (Below (wr.heap.size+1) (wr.alloc (.cells #[.string xn,.string xd,.int .i64 xf,.int .i64 xl,.int .i64 xs,.slice xa xk xo,.int .i64 xc,.int .i64 xi,.pointer (some ⟨b,0,none⟩)] 128)) w3):=Bw2.out.trans (hb.mono (Nat.le_trans (by simp) Bw2.out.size));have Ow3:Hid (w3.ownsRow (W.heap.size+1) 128 9 (.slice (some ⟨g,0,none⟩) K cap) K (flat9 b R)):=rowBelow Ow2.out hb;clear r0 r1 r2 r3 r4 r5 r6 r7 r8 rL;obtain ⟨r0,r1,r2,r3,r4,r5,r6,r7,r8,rL⟩:=row9 ((Bw3.out.block wr.heap.size (by omega)).trans HX9.out);clear hb)
              | (go_at_call 86;refine (HC9.out _ (Below.trans ((Below.refl _ _).alloc (Nat.le_refl _) _) (Bw3.out.mono (by omega)))).mono ?_;rintro e w4 ⟨rfl,hb⟩;have Bw4:Hid (Below (wr.heap.size+1) (wr.alloc (.cells #[.string xn,.string xd,.int .i64 xf,.int .i64 xl,.int .i64 xs,.slice xa xk xo,.int .i64 xc,.int .i64 xi,.pointer (some ⟨b,0,none⟩)] 128)) w4):=Bw3.out.trans (hb.mono (Nat.le_trans (by simp) Bw3.out.size));have Ow4:Hid (w4.ownsRow (W.heap.size+1) 128 9 (.slice (some ⟨g,0,none⟩) K cap) K (flat9 b R)):=rowBelow Ow3.out hb;clear r0 r1 r2 r3 r4 r5 r6 r7 r8 rL;obtain ⟨r0,r1,r2,r3,r4,r5,r6,r7,r8,rL⟩:=row9 ((Bw4.out.block wr.heap.size (by omega)).trans HX9.out);clear hb))
            have hsz:wr.heap.size+1≤w4.heap.size:=by have:=Bw4.out.size;simpa using this
            have B8:Hid (Below (W.heap.size+1) (W.alloc (.cells #[.string an,.string ad,.int .i64 af,.int .i64 al,.int .i64 az,.slice aa ak ao,.int .i64 ac,.int .i64 ai,.pointer (some ⟨b,0,none⟩)] 128)) w4):=(hB.out.alloc hNr _).trans (Bw4.out.mono (by omega))
            refine ⟨⟨i+1,k,R,rfl,by simp,by omega,by omega,HSK.out rfl,Ow4,B8⟩,by simp [intOf];omega⟩
          case true =>
            go_wp2_with (first
              | (go_at_call 87;refine (HI9.out _).mono ?_;rintro e w2 ⟨rfl,hb⟩;have Bw2:Hid (Below (wr.heap.size+1) (wr.alloc (.cells #[.string xn,.string xd,.int .i64 xf,.int .i64 xl,.int .i64 xs,.slice xa xk xo,.int .i64 xc,.int .i64 xi,.pointer (some ⟨b,0,none⟩)] 128)) w2):=Below.mono hb (by simp);have Ow2:Hid (w2.ownsRow (W.heap.size+1) 128 9 (.slice (some ⟨g,0,none⟩) K cap) K (flat9 b R)):=rowBelow (hO.out.alloc _) hb;obtain ⟨r0,r1,r2,r3,r4,r5,r6,r7,r8,rL⟩:=row9 ((Bw2.out.block wr.heap.size (by omega)).trans HX9.out);clear hb HI9)
              | (go_at_call 130;refine (HS9.out _).mono ?_;rintro e w3 ⟨rfl,hb⟩;have Bw3:Hid (Below (wr.heap.size+1) (wr.alloc (.cells #[.string xn,.string xd,.int .i64 xf,.int .i64 xl,.int .i64 xs,.slice xa xk xo,.int .i64 xc,.int .i64 xi,.pointer (some ⟨b,0,none⟩)] 128)) w3):=Bw2.out.trans (hb.mono (Nat.le_trans (by simp) Bw2.out.size));have Ow3:Hid (w3.ownsRow (W.heap.size+1) 128 9 (.slice (some ⟨g,0,none⟩) K cap) K (flat9 b R)):=rowBelow Ow2.out hb;clear r0 r1 r2 r3 r4 r5 r6 r7 r8 rL;obtain ⟨r0,r1,r2,r3,r4,r5,r6,r7,r8,rL⟩:=row9 ((Bw3.out.block wr.heap.size (by omega)).trans HX9.out);clear hb)
              | (go_at_call 86;refine (HC9.out _ (Below.trans ((Below.refl _ _).alloc (Nat.le_refl _) _) (Bw3.out.mono (by omega)))).mono ?_;rintro e w4 ⟨rfl,hb⟩;have Bw4:Hid (Below (wr.heap.size+1) (wr.alloc (.cells #[.string xn,.string xd,.int .i64 xf,.int .i64 xl,.int .i64 xs,.slice xa xk xo,.int .i64 xc,.int .i64 xi,.pointer (some ⟨b,0,none⟩)] 128)) w4):=Bw3.out.trans (hb.mono (Nat.le_trans (by simp) Bw3.out.size));have Ow4:Hid (w4.ownsRow (W.heap.size+1) 128 9 (.slice (some ⟨g,0,none⟩) K cap) K (flat9 b R)):=rowBelow Ow3.out hb;clear r0 r1 r2 r3 r4 r5 r6 r7 r8 rL;obtain ⟨r0,r1,r2,r3,r4,r5,r6,r7,r8,rL⟩:=row9 ((Bw4.out.block wr.heap.size (by omega)).trans HX9.out);clear hb)
              | (at_builtin;refine wpList_append_over _ rfl _ _ 131 rfl (W.heap.size+1) 128 i0 9 Tryz.underlying131 hi0 hz1 g k K cap (flat9 b R) rfl (Ow4.out.alloc _) ⟨w4.heap.size,0,none⟩ 1 1 (P9.cells b ⟨xn,xd,xf,xl,xs,xa,xk,xo,xc,xi⟩) rfl rfl ?c1 ?c2 (by omega) ?_))
            case c1 =>
              intro jj u hj
              rw [addr_add,Nat.zero_add]
              have hd:(w4.alloc (.cells #[.string xn,.string xd,.int .i64 xf,.int .i64 xl,.int .i64 xs,.slice xa xk xo,.int .i64 xc,.int .i64 xi,.pointer (some ⟨b,0,none⟩)] 128)).heap[w4.heap.size]?=some (.cells #[.string xn,.string xd,.int .i64 xf,.int .i64 xl,.int .i64 xs,.slice xa xk xo,.int .i64 xc,.int .i64 xi,.pointer (some ⟨b,0,none⟩)] 128 (0,0)):=halloc1 _ _
              rw [cell_of_row _ _ jj _ _ _ hd,← hj]
              simp only [P9.cells,List.getElem?_toArray]
            case c2=>intro u hu;exact flat9_one b [⟨xn,xd,xf,xl,xs,xa,xk,xo,xc,xi⟩] u (by rw [flat9_cons];exact List.mem_append_left _ hu)
            intro w8 hown hgrow
            have hGK:=hG.out.len
            have O8:Hid (w8.ownsRow (W.heap.size+1) 128 9 (.slice (some ⟨g,0,none⟩) K cap) K (flat9 b (R.take k++[(⟨xn,xd,xf,xl,xs,xa,xk,xo,xc,xi⟩:P9)]++R.drop (k+1)))):=by
              rw [Hid,flat9_app,flat9_app,← flat9_take,← flat9_drop]
              have e:flat9 b [(⟨xn,xd,xf,xl,xs,xa,xk,xo,xc,xi⟩:P9)]=P9.cells b ⟨xn,xd,xf,xl,xs,xa,xk,xo,xc,xi⟩:=by rw [flat9_cons];exact List.append_nil _
              rw [e,List.append_assoc];exact hown
            have hsz:wr.heap.size+1≤w4.heap.size:=by have:=Bw4.out.size;simpa using this
            have B8:Hid (Below (W.heap.size+1) (W.alloc (.cells #[.string an,.string ad,.int .i64 af,.int .i64 al,.int .i64 az,.slice aa ak ao,.int .i64 ac,.int .i64 ai,.pointer (some ⟨b,0,none⟩)] 128)) w8):=by
              have hb1:Below (W.heap.size+1) (W.alloc (.cells #[.string an,.string ad,.int .i64 af,.int .i64 al,.int .i64 az,.slice aa ak ao,.int .i64 ac,.int .i64 ai,.pointer (some ⟨b,0,none⟩)] 128)) (w4.alloc (.cells #[.string xn,.string xd,.int .i64 xf,.int .i64 xl,.int .i64 xs,.slice xa xk xo,.int .i64 xc,.int .i64 xi,.pointer (some ⟨b,0,none⟩)] 128)):=((hB.out.alloc hNr _).trans (Bw4.out.mono (by omega))).alloc (by omega) _
              refine hb1.grown hgrow (by simp;omega) (fun x hx=>?_)
              cases hx;exact hgN
            go_wp2
            refine ⟨⟨i+1,k+1,R.take k++[(⟨xn,xd,xf,xl,xs,xa,xk,xo,xc,xi⟩:P9)]++R.drop (k+1),rfl,by simp,by omega,by omega,HKE.out rfl,O8,B8⟩,by simp [intOf];omega⟩
    · have e:i=K:=by omega
      subst e
      have HE:Hid ((R.take k).map P9.id=gthL ps (ac,ai) I):=by
        rw [Hid,hG.out.pre,List.take_of_length_le (by rw [HK.out];exact Nat.le_refl _),ID1.out]
      have hRK:R.length=i:=hG.out.len.trans HK.out
      have hkl:(R.take k).length=k:=by rw [List.length_take];omega
      have O9:Hid (wr.ownsRow W.heap.size 128 9 (.slice (some ⟨g,0,none⟩) k cap) k (flat9 b (R.take k))):=by
        have:=row_cut hO.out hki
        rw [flat9_take] at this
        exact Go.Joins.ownsRow_le this (by omega)
      have OK9:Hid (∀ y∈R.take k,OkP ps y):=fun y hy=>hG.out.ok y (List.mem_of_mem_take hy)
      have B9:Hid (Below W.heap.size W wr):=((Below.refl _ W).alloc (Nat.le_refl _) _).trans (hB.out.mono (by omega))
      go_wp2
      refine bodyPost_ret (results_tmp rfl _ _ _) rfl ⟨R.take k,g,cap,(by rw [hkl];rfl),OK9.out,HE.out,by rw [hkl];exact O9.out,B9.out⟩
theorem row2 {w:World} {n:Nat} {t:TypeId} {a0 a1:Value} (h:w.heap[n]?=some (.cells #[a0,a1] t (0,0))):w.cell? ⟨n,0,none⟩=some a0∧w.cell? ⟨n,1,none⟩=some a1∧w.frozen? ⟨n,0,none⟩=false∧w.frozen? ⟨n,1,none⟩=false∧n<w.heap.size :=
  ⟨(cell_of_row w n 0 _ _ _ h).trans rfl,(cell_of_row w n 1 _ _ _ h).trans rfl,froz h 0,froz h 1,(Array.getElem?_eq_some_iff.1 h).1⟩
set_option maxHeartbeats 4000000 in
theorem all_no {b:Nat} {ps:List Plc} {W:World} (h:WAt b ps W) (hi:WI ps) (c i:Int) (hm:methI ps c i=none):Calls Tryz.prog 33 #[.pointer (some ⟨b,0,none⟩),.agg #[.int .i64 c,.int .i64 i]] W fun e w'=>e=.returned (.tuple #[.slice none 0 0,.int .i64 3])∧Below W.heap.size W w':=by
  have HR:Hid (∀ w,Below W.heap.size W w→Calls Tryz.prog 78 #[.pointer (some ⟨b,0,none⟩),.agg #[.int .i64 c,.int .i64 i]] w fun e w'=>e=.returned (.tuple #[.agg #[.string ⟨#[]⟩,.string ⟨#[]⟩,.int .i64 0,.int .i64 0,.int .i64 0,.slice none 0 0,.int .i64 0,.int .i64 0,.pointer none],.int .i64 3])∧Below w.heap.size w w'):=fun w hb=>by
    have:=read_c (h.below hb) hi c i
    rw [hm] at this
    exact this
  clear h hi hm
  go_enter Tryz.func33,Tryz.ntmps33
  go_wp2_with (go_at_call 78;refine (HR.out _ (by repeat (first|exact Below.refl _ _|refine Below.setCell ?_ (by simp;try omega) _|refine Below.alloc ?_ (by simp;try omega) _|refine Below.drew ?_))).mono ?_;rintro e w1 ⟨rfl,hb⟩;have B1:Hid (Below W.heap.size W w1):=bstep (by repeat (first|exact Below.refl _ _|refine Below.setCell ?_ (by simp;try omega) _|refine Below.alloc ?_ (by simp;try omega) _|refine Below.drew ?_)) hb;clear hb HR)
  exact bodyPost_ret (results_tmp2 rfl _ _ _) rfl ⟨rfl,(by repeat (first|refine Below.setCell ?_ (by simp;try omega) _|refine Below.alloc ?_ (by have:=B1.out.size;simp;try omega) _|refine Below.drew ?_|exact B1.out))⟩
set_option maxHeartbeats 8000000 in
theorem all_yes {b:Nat} {ps:List Plc} {W:World} (h:WAt b ps W) (hi:WI ps) (k:Nat) (hk:k<ps.length) (i:Int) (m:HM) (hm:methI ps (k:Int) i=some m) (G:List (Int×Int)) (hG:gthL ps ((k:Int),i) (askL ps m ((k:Int),i) (List.range' (k+1) (ps.length - (k+1))))=G):Calls Tryz.prog 33 #[.pointer (some ⟨b,0,none⟩),.agg #[.int .i64 (k:Int),.int .i64 i]] W fun e w'=>(∃ v,e=.returned (.tuple #[v,.int .i64 0])∧w'.ownsRow W.heap.size 60 2 v G.length (flatD G))∧Below W.heap.size W w':=by
  obtain ⟨i0,hi0,hz0,hz1,hz2⟩:=info_parts Tryz.hinfo3
  obtain ⟨j0,hj0,hy0,hy1,hy2⟩:=info_parts Tryz.hinfoD
  have hP3:=hi.hi
  have hGb:G.length≤301:=by
    rw [← hG]
    refine Nat.le_trans (gthL_len _ _ _) ?_
    have:=nskL_len ps m.nm m.ds ((k:Int),i).1 (List.range' (k+1) (ps.length - (k+1)))
    rw [List.length_range'] at this
    rw [askL,List.length_cons]
    omega
  have HR:Hid (∀ w,Below W.heap.size W w→Calls Tryz.prog 78 #[.pointer (some ⟨b,0,none⟩),.agg #[.int .i64 (k:Int),.int .i64 i]] w fun e w'=>(∃ ma mk mo,e=.returned (.tuple #[.agg #[.string m.nm,.string m.ds,.int .i64 m.fl,.int .i64 m.lo,.int .i64 m.st,.slice ma mk mo,.int .i64 (k:Int),.int .i64 i,.pointer (some ⟨b,0,none⟩)],.int .i64 0]))∧Below w.heap.size w w'):=fun w hb=>by
    have:=read_c (h.below hb) hi (k:Int) i
    rw [hm] at this
    exact this
  have HLn:Hid (∀ w,Below W.heap.size W w→Calls Tryz.prog 11 #[.pointer (some ⟨b,0,none⟩)] w fun e w'=>e=.returned (.int .i64 (ps.length:Int))∧w'=w):=fun w hb=>len_c (h.below hb)
  have HG:Hid (∀ w (x:P9) (v:Value),Below W.heap.size W w→OkP ps x→x.id=((k:Int),i)→(x.nm,x.ds,x.c)=(m.nm,m.ds,(k:Int))→Rds w v (ps.length - (k+1)) 1 ((List.range' (k+1) (ps.length - (k+1))).map numV)→Calls Tryz.prog 79 #[x.agg b,v] w fun e w'=>∃ (L:List P9) (g cap:Nat),e=.returned (.slice (some ⟨g,0,none⟩) L.length cap)∧(∀ y∈L,OkP ps y)∧L.map P9.id=G∧w'.ownsRow w.heap.size 128 9 (.slice (some ⟨g,0,none⟩) L.length cap) L.length (flat9 b L)∧Below w.heap.size w w'):=fun w x v hb ho hid hnd hv=>by
    have:=gth_c (h.below hb) hi x ho v (List.range' (k+1) (ps.length - (k+1))) (by rw [List.length_range'];exact hv) (by rw [List.length_range'];omega)
    simp only [Prod.mk.injEq] at hnd
    rw [hid,hnd.1,hnd.2.1,hnd.2.2] at this
    rw [askL] at hG
    rw [hG] at this
    exact this
  have HM:Hid (methI ps (k:Int) i=some m):=hm
  generalize ps.length=P at *
  clear h hi hm hG
  simp only [P9.agg] at HG
  go_enter Tryz.func33,Tryz.ntmps33
  go_wp2_with (go_at_call 78;refine (HR.out _ (by repeat (first|exact Below.refl _ _|refine Below.setCell ?_ (by simp;try omega) _|refine Below.alloc ?_ (by simp;try omega) _|refine Below.drew ?_))).mono ?_;rintro e w1 ⟨⟨ma,mk,mo,rfl⟩,hb⟩;have abd:=kp2 (n:=W.heap.size) hb (by simp) (halloc1 _ _);obtain ⟨abB,ab0,ab1,abf,abL,abN⟩:=abd;have B1:Hid (Below W.heap.size W w1):=bstep (by repeat (first|exact Below.refl _ _|refine Below.setCell ?_ (by simp;try omega) _|refine Below.alloc ?_ (by simp;try omega) _|refine Below.drew ?_)) hb;clear hb HR)
  obtain ⟨U,hU⟩:∃ U,U=w1.alloc (.cells #[.string m.nm,.string m.ds,.int .i64 m.fl,.int .i64 m.lo,.int .i64 m.st,.slice ma mk mo,.int .i64 (k:Int),.int .i64 i,.pointer (some ⟨b,0,none⟩)] 128):=⟨_,rfl⟩
  have BU:Hid (Below W.heap.size W U):=by rw [hU];exact B1.out.alloc B1.out.size _
  have HX:Hid (U.heap[w1.heap.size]?=some (.cells #[.string m.nm,.string m.ds,.int .i64 m.fl,.int .i64 m.lo,.int .i64 m.st,.slice ma mk mo,.int .i64 (k:Int),.int .i64 i,.pointer (some ⟨b,0,none⟩)] 128 (0,0))):=by rw [hU];exact halloc1 _ _
  have hxl:w1.heap.size<U.heap.size:=by rw [hU];simp
  rw [← hU]
  clear hU abB ab0 ab1 abf abL abN
  go_loopw [8,9] (fun sv kv wr=>∃ n:Nat,kv=.int .i64 ((k+1+n:Nat):Int)∧k+1+n≤P∧Hid (wr.ownsRow U.heap.size 3 1 sv n ((List.range' (k+1) n).map numV))∧Hid (Below U.heap.size U wr)) (fun _ kv _=>P - (intOf kv).toNat)
  case atStart=>exact ⟨0,by go_num,by omega,World.ownsRow_nil _ _ _ _,Below.refl _ _⟩
  case round =>
    obtain ⟨n,rfl,hn,hO,hB⟩:=hrel
    have BWr:Hid (Below W.heap.size W wr):=BU.out.trans (hB.out.mono BU.out.size)
    obtain ⟨va,vn,rfl⟩:=ownv hO.out
    have HL1:Hid (Calls Tryz.prog 11 #[.pointer (some ⟨b,0,none⟩)] wr fun e w'=>e=.returned (.int .i64 (P:Int))∧w'=wr):=HLn.out wr BWr.out
    by_cases hlt:k+1+n<P
    · have hltI:((k+1+n:Nat):Int)<(P:Int):=by omega
      have hst:(List.range' (k+1) (n+1)).map numV=(List.range' (k+1) n).map numV++[numV (k+1+n)]:=by rw [List.range'_1_concat,List.map_append];rfl
      have HST:Hid _:=hst
      obtain ⟨c,hc⟩:∃ c,c=k+1+n:=⟨_,rfl⟩
      rw [← hc] at hltI HST ⊢
      have HC:Hid (c=k+1+n):=hc
      have hc3:c≤300:=by omega
      have hn3:n≤300:=by omega
      generalize (List.range' (k+1) n).map numV=X at *
      clear hst hc
      go_wp2_with (first
        | (go_at_call 11;refine HL1.out.mono ?_;rintro e w9 ⟨rfl,hw9⟩;rw [hw9];clear hw9 w9 HL1)
        | (at_builtin;refine wpList_append_own _ rfl _ _ 37 rfl U.heap.size 3 i0 (.int .i64 0) 1 8 Tryz.underlying37 hi0 hz0 hz1 hz2 rfl (by decide) (.slice va n vn) n X rfl (hO.out.alloc _) ⟨wr.heap.size,0,none⟩ 1 1 [.int .i64 (c:Int)] rfl rfl ?c1 ?c2 ?c3 ?c4 ?c5 ?_))
      case c1=>intro jj u hj;rw [addr_add];cases jj with
        | zero=>simp at hj;subst hj;simp [go_sem]
        | succ jj=>simp at hj
      case c2=>intro u hu;simp at hu;subst hu;rfl
      case c3=>unfold maxLen;omega
      case c4=>omega
      case c5=>have:=hB.out.size;simp;omega
      intro v' w2 hown hgrow _
      obtain ⟨va2,vn2,rfl⟩:=ownv hown
      have B2:Hid (Below U.heap.size U w2):=by
        have hb1:Below U.heap.size U (wr.alloc (.cells #[.int .i64 (c:Int)] 3)):=hB.out.alloc hB.out.size _
        refine hb1.grown hgrow hb1.size (fun x hx=>?_)
        have:=(hO.out.lt x hx).1
        omega
      have O2:Hid (w2.ownsRow U.heap.size 3 1 (.slice va2 (n+1) vn2) (n+1) ((List.range' (k+1) (n+1)).map numV)):=by
        rw [Hid,HST.out];exact hown
      clear hown hgrow
      go_wp2
      go_roundw
      case rel=>exact ⟨n+1,by rw [HC.out];go_num,by have:=HC.out;omega,O2,B2⟩
      case measure=>have:=HC.out;simp [intOf];omega
    · have en:n=P - (k+1):=by omega
      have hltI:¬ ((k+1+n:Nat):Int)<(P:Int):=by omega
      have D1:Hid (Rds wr (.slice va n vn) (P - (k+1)) 1 ((List.range' (k+1) (P - (k+1))).map numV)):=by rw [Hid,← en];exact own_rds hO.out
      obtain ⟨p0,p1,p2,p3,p4,p5,p6,p7,p8,pL⟩:=row9 ((hB.out.block w1.heap.size hxl).trans HX.out)
      have EN:Hid (n=P - (k+1)):=en
      clear en
      go_wp2_with (first
        | (go_at_call 11;refine HL1.out.mono ?_;rintro e w9 ⟨rfl,hw9⟩;rw [hw9];clear hw9 w9 HL1)
        | (go_at_call 79;refine (HG.out wr ⟨m.nm,m.ds,m.fl,m.lo,m.st,ma,mk,mo,(k:Int),i⟩ (.slice va n vn) BWr.out ⟨m,HM.out,rfl,rfl,rfl⟩ rfl rfl D1.out).mono ?_;rintro e w4 ⟨L,g,cap,rfl,hok,hid,ho,hb⟩;have ID4:Hid (L.map P9.id=G):=hid;have O4:Hid (w4.ownsRow wr.heap.size 128 9 (.slice (some ⟨g,0,none⟩) L.length cap) L.length (flat9 b L)):=ho;have B4:Hid (Below W.heap.size W w4):=bstep BWr.out hb;clear hb ho hok hid HG))
      clear p0 p1 p2 p3 p4 p5 p6 p7 p8 pL
      obtain ⟨T,hT⟩:∃ T,L.length=T:=⟨_,rfl⟩
      have HT:Hid (L.length=T):=hT
      have HGT:Hid (G.length=T):=by rw [Hid,← ID4.out,List.length_map];exact hT
      have hT3:T≤301:=by rw [← HGT.out];exact hGb
      rw [hT] at O4 ⊢
      clear hT
      go_loopw [10,39] (fun sv kv wr=>∃ j:Nat,kv=.int .i64 j∧j≤T∧Hid (wr.ownsRow w4.heap.size 60 2 sv j (flatD (G.take j)))∧Hid (Below w4.heap.size w4 wr)) (fun _ kv _=>T - (intOf kv).toNat)
      case atStart=>exact ⟨0,rfl,Nat.zero_le _,World.ownsRow_nil _ _ _ _,Below.refl _ _⟩
      case round =>
        obtain ⟨j,rfl,hj,hOj,hBj⟩:=hrel
        obtain ⟨xa,xc,rfl⟩:=ownv hOj.out
        by_cases hlj:j<T
        · have hjI:(j:Int)<(T:Int):=by omega
          obtain ⟨y,hy⟩:∃ y,L[j]?=some y:=⟨_,List.getElem?_eq_getElem (by rw [HT.out];exact hlj)⟩
          have hgy:G[j]?=some y.id:=by rw [← ID4.out,List.getElem?_map,hy];rfl
          have HTK:Hid (flatD (G.take (j+1))=flatD (G.take j)++[.int .i64 y.c,.int .i64 y.i]):=by
            rw [Hid,List.take_add_one,hgy,Option.toList_some,flatD_app];rfl
          obtain ⟨e0,e1,e2,e3,e4,e5,e6,e7,e8,gL⟩:=row9_cells (rowBelow O4.out hBj.out) hy
          obtain ⟨yn,yd,yf,yl,ys,ya,yk,yo,yc,yi⟩:=y
          simp only at e0 e1 e2 e3 e4 e5 e6 e7 e8 HTK
          generalize flatD (G.take j)=X at hOj HTK
          clear hy hgy
          go_wp2_with (at_builtin;refine wpList_append_own _ rfl _ _ 70 rfl w4.heap.size 60 j0 (.agg #[.int .i64 0,.int .i64 0]) 2 16 Tryz.underlying70 hj0 hy0 hy1 hy2 rfl (by decide) (.slice xa j xc) j X rfl ((hOj.out.alloc _).alloc _) ⟨wr.heap.size+1,0,none⟩ 1 1 [.int .i64 yc,.int .i64 yi] rfl rfl ?c1 ?c2 ?c3 ?c4 ?c5 ?_)
          case c1=>intro jj u hj;rw [addr_add];match jj,hj with
            | 0,hj=>simp at hj;subst hj;simp [go_sem]
            | 1,hj=>simp at hj;subst hj;simp [go_sem]
            | (jj+2),hj=>simp at hj
          case c2=>intro u hu;simp at hu;rcases hu with rfl|rfl <;> rfl
          case c3=>unfold maxLen;omega
          case c4=>omega
          case c5=>have:=hBj.out.size;simp;omega
          intro v' w6 hown hgrow _
          obtain ⟨va2,vn2,rfl⟩:=ownv hown
          have B6:Hid (Below w4.heap.size w4 w6):=by
            refine Below.grown (w:=(wr.alloc (.cells #[.string yn,.string yd,.int .i64 yf,.int .i64 yl,.int .i64 ys,.slice ya yk yo,.int .i64 yc,.int .i64 yi,.pointer (some ⟨b,0,none⟩)] 128)).alloc (.cells #[.int .i64 yc,.int .i64 yi] 60)) ?_ hgrow ?_ (fun x hx=>?_)
            · exact (hBj.out.alloc hBj.out.size _).alloc (by have:=hBj.out.size;simp;omega) _
            · have:=hBj.out.size;simp;omega
            · have:=(hOj.out.lt x hx).1
              omega
          have O6:Hid (w6.ownsRow w4.heap.size 60 2 (.slice va2 (j+1) vn2) (j+1) (flatD (G.take (j+1)))):=by
            rw [Hid,HTK.out];exact hown
          clear hown hgrow
          go_wp2
          go_roundw
          case rel=>exact ⟨j+1,by go_num,by omega,O6,B6⟩
          case measure=>simp [intOf];omega
        · have e:j=T:=by omega
          subst e
          have O9:Hid (wr.ownsRow W.heap.size 60 2 (.slice xa j xc) G.length (flatD G)):=by
            have:=hOj.out
            rw [List.take_of_length_le (by rw [HGT.out];exact Nat.le_refl _)] at this
            rw [Hid,HGT.out]
            exact Go.Joins.ownsRow_le this B4.out.size
          go_wp2
          exact bodyPost_ret (results_tmp2 rfl _ _ _) rfl ⟨⟨_,rfl,O9.out⟩,B4.out.trans (hBj.out.mono B4.out.size)⟩
variable {ps:List Plc} {p:Plc}
end Go.Proofs.YtfjekhmnjfcbeaaGreat
