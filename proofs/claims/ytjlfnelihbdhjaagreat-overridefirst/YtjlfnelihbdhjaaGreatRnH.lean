import Derived.Test.YtjlfnelihbdhjaaGreatOvB
import Derived.Test.YtjlfnelihbdhjaaGreatOvC
import Derived.Test.YtjlfnelihbdhjaaGreatHrZ
import Derived.Test.YtjlfnelihbdhjaaGreatChA
import Derived.Test.YtjlfnelihbdhjaaGreatHrK
import Derived.Test.YtjlfnelihbdhjaaGreatRsC
import Derived.Deep.AppendLies
import Derived.Deep.RegionHeld3
import Derived.IntWalk
import Derived.Maps.AppendAt
set_option maxRecDepth 100000
namespace Go.Proofs.YtjlfnelihbdhjaaGreat
open Go.RowKit Go.Maps
theorem Tryz.hinfoP9:(Tryz.prog.info? 93).map (fun i=>(i.zero,i.size,i.bytes))=some (some (.agg #[.string ⟨#[]⟩,.string ⟨#[]⟩,.int .i64 0,.int .i64 0,.int .i64 0,.slice none 0 0,.int .i64 0,.int .i64 0,.pointer none]),9,104):=by kernel_rfl
theorem nskL_take {ps:List Plc} {nm ds:ByteArray} {a:Int} {l:List Nat} {j i:Nat} (h:l[j]?=some i):nskL ps nm ds a (l.take (j+1))=nskL ps nm ds a (l.take j)++(if (fndI ps (i:Int) nm ds).2=0∧(i:Int)≠a then [((i:Int),(fndI ps (i:Int) nm ds).1)] else []):=by
  rw [List.take_add_one,h,nskL_app]
  congr 1
theorem own9_one {w:World} {N g b:Nat} {x:P9} (hg:N≤g) (h:w.heap[g]?=some (.cells (x.cells b).toArray 93 (0,0))):w.ownsRow N 93 9 (.slice (some ⟨g,0,none⟩) [x].length 1) [x].length (flat9 b [x]) :=
  ⟨rfl,.inr ⟨g,1,_,rfl,hg,h,Nat.le_refl _,by unfold maxLen;omega,rfl,rfl⟩⟩
set_option maxHeartbeats 8000000 in
theorem nsk_c {b:Nat} {ps:List Plc} {W:World} (h:WAt b ps W) (hi:WI ps) (x:P9) (hx:OkP ps x) (v:Value) (l:List Nat) (hv:Rds W v l.length 1 (l.map numV)) (hn:l.length≤300) :
    Calls Tryz.prog 150 #[x.agg b,v] W fun e w'=>∃ (L:List P9) (g cap:Nat),e=.returned (.slice (some ⟨g,0,none⟩) L.length cap)∧(∀ y∈L,OkP ps y)∧L.map P9.id=x.id::nskL ps x.nm x.ds x.c l∧w'.ownsRow W.heap.size 93 9 (.slice (some ⟨g,0,none⟩) L.length cap) L.length (flat9 b L)∧Below W.heap.size W w':=by
  obtain ⟨i0,hi0,hz0,hz1,hz2⟩:=info_parts Tryz.hinfoP9
  have HX:Hid (OkP ps x):=hx
  obtain ⟨X,hX⟩:∃ X,X=x:=⟨_,rfl⟩
  obtain ⟨an,ad,af,al,az,aa,ak,ao,ac,ai⟩:=x
  have HXE:Hid (X=⟨an,ad,af,al,az,aa,ak,ao,ac,ai⟩):=hX
  simp only [P9.agg]
  obtain ⟨K,hK⟩:∃ K,l.length=K:=⟨_,rfl⟩
  have HK:Hid (l.length=K):=hK
  obtain ⟨va,vc,rfl⟩:=hv.slice
  have HV:Hid (Rds W (.slice va l.length vc) l.length 1 (l.map numV)):=hv
  have HU:Hid (WAt b ps (W.alloc (.cells #[.string an,.string ad,.int .i64 af,.int .i64 al,.int .i64 az,.slice aa ak ao,.int .i64 ac,.int .i64 ai,.pointer (some ⟨b,0,none⟩)] 93))):=h.below ((Below.refl _ _).alloc (Nat.le_refl _) _)
  have HA9:Hid ((W.alloc (.cells #[.string an,.string ad,.int .i64 af,.int .i64 al,.int .i64 az,.slice aa ak ao,.int .i64 ac,.int .i64 ai,.pointer (some ⟨b,0,none⟩)] 93)).heap[W.heap.size]?=some (.cells #[.string an,.string ad,.int .i64 af,.int .i64 al,.int .i64 az,.slice aa ak ao,.int .i64 ac,.int .i64 ai,.pointer (some ⟨b,0,none⟩)] 93 (0,0))):=halloc1 _ _
  have HI:Hid (WI ps):=hi
  rw [hK] at hn ⊢
  clear hv hK h hi hx hX
  go_enter Tryz.func150,Tryz.ntmps150
  go_wp2
  go_loopw [5,16] (fun sv kv wr=>∃ (j:Nat) (L:List P9) (g cap:Nat),sv=.slice (some ⟨g,0,none⟩) L.length cap∧kv=.int .i64 j∧j≤K∧Hid (∀ y∈L,OkP ps y)∧Hid (L.map P9.id=(ac,ai)::nskL ps an ad ac (l.take j))∧Hid (wr.ownsRow (W.heap.size+1) 93 9 (.slice (some ⟨g,0,none⟩) L.length cap) L.length (flat9 b L))∧Hid (Below (W.heap.size+1) (W.alloc (.cells #[.string an,.string ad,.int .i64 af,.int .i64 al,.int .i64 az,.slice aa ak ao,.int .i64 ac,.int .i64 ai,.pointer (some ⟨b,0,none⟩)] 93)) wr)) (fun _ kv _=>K - (intOf kv).toNat)
  case atStart=>exact ⟨0,[⟨an,ad,af,al,az,aa,ak,ao,ac,ai⟩],W.heap.size+1,1,rfl,rfl,Nat.zero_le _,(by intro y hy;rw [List.mem_singleton] at hy;subst hy;exact HX.out),rfl,own9_one (Nat.le_refl _) (halloc2 _ _ (by simp)),(Below.refl _ _).alloc (by simp) _⟩
  case round =>
    obtain ⟨j,L,g,cap,rfl,rfl,hj,hOk,hM,hO,hB⟩:=hrel
    have hNr:W.heap.size+1≤wr.heap.size:=by have:=hB.out.size;simpa using this
    have hLl:L.length≤301:=by
      have e:=congrArg List.length hM.out
      have:=nskL_len ps an ad ac (l.take j)
      rw [List.length_map,List.length_cons] at e
      rw [List.length_take] at this
      omega
    have BW:Hid (Below W.heap.size W wr):=((Below.refl _ W).alloc (Nat.le_refl _) _).trans (hB.out.mono (by omega))
    by_cases hlt:j<K
    · have hjl:j<l.length:=by rw [HK.out];exact hlt
      obtain ⟨i,hil⟩:∃ i,l[j]?=some i:=⟨_,List.getElem?_eq_getElem hjl⟩
      have hv2:=HV.out.keep BW.out
      obtain ⟨bk,oo,rfl,hbk,hcr⟩:=rds_num hv2 hil
      rw [HK.out] at hv2
      have HWr:Hid (WAt b ps wr):=HU.out.below (by simpa using hB.out)
      have HF:Hid (Calls Tryz.prog 209 #[.pointer (some ⟨b,0,none⟩),.int .i64 (i:Int),.string an,.string ad] wr fun e w'=>e=.returned (.tuple #[.int .i64 (fndI ps i an ad).1,.int .i64 (fndI ps i an ad).2])∧Below wr.heap.size wr w'):=find_c HWr.out HI.out.pb i an ad
      have hst:=nskL_take (ps:=ps) (nm:=an) (ds:=ad) (a:=ac) hil
      obtain ⟨q0,q1,q2,q3,q4,q5,q6,q7,q8,qL⟩:=row9 ((hB.out.block W.heap.size (by omega)).trans HA9.out)
      by_cases hF:(fndI ps i an ad).2=0
      · obtain ⟨hff,_⟩:=fnd_facts hF
        obtain ⟨m,hm⟩:∃ m,methI ps (i:Int) (fndI ps i an ad).1=some m:=⟨_,hff.choose_spec.1⟩
        have HR:Hid (∀ w,Below (W.heap.size+1) (W.alloc (.cells #[.string an,.string ad,.int .i64 af,.int .i64 al,.int .i64 az,.slice aa ak ao,.int .i64 ac,.int .i64 ai,.pointer (some ⟨b,0,none⟩)] 93)) w→Calls Tryz.prog 74 #[.pointer (some ⟨b,0,none⟩),.agg #[.int .i64 (i:Int),.int .i64 (fndI ps i an ad).1]] w fun e w'=>(∃ ma mk mo,e=.returned (.tuple #[.agg #[.string m.nm,.string m.ds,.int .i64 m.fl,.int .i64 m.lo,.int .i64 m.st,.slice ma mk mo,.int .i64 (i:Int),.int .i64 (fndI ps i an ad).1,.pointer (some ⟨b,0,none⟩)],.int .i64 0]))∧Below w.heap.size w w'):=fun w hb=>by
          have:=read_c (HU.out.below (by simpa using hb)) HI.out (i:Int) (fndI ps i an ad).1
          rw [hm] at this
          exact this
        have HM:Hid (methI ps (i:Int) (fndI ps i an ad).1=some m):=hm
        rw [hF] at hst HF
        clear hff hm hF hil hjl hv2
        generalize (fndI ps i an ad).1=F1 at *
        by_cases hic:(i:Int)=ac
        · have hst2:nskL ps an ad ac (List.take (j+1) l)=nskL ps an ad ac (List.take j l):=by rw [hst,if_neg (fun h=>h.2 hic),List.append_nil]
          have HST:Hid _:=hst2
          have hic2:((i:Int) == ac)=true:=by simp [hic]
          clear hst hst2 hic HR
          go_wp2_with (first
            | (go_at_call 209;refine HF.out.mono ?_;rintro e w2 ⟨rfl,hb⟩;have B2:Hid (Below (W.heap.size+1) (W.alloc (.cells #[.string an,.string ad,.int .i64 af,.int .i64 al,.int .i64 az,.slice aa ak ao,.int .i64 ac,.int .i64 ai,.pointer (some ⟨b,0,none⟩)] 93)) w2):=hB.out.trans (hb.mono hNr);have O2:Hid (w2.ownsRow (W.heap.size+1) 93 9 (.slice (some ⟨g,0,none⟩) L.length cap) L.length (flat9 b L)):=rowBelow hO.out hb;clear q0 q1 q2 q3 q4 q5 q6 q7 q8 qL;obtain ⟨q0,q1,q2,q3,q4,q5,q6,q7,q8,qL⟩:=row9 ((B2.out.block W.heap.size (by omega)).trans HA9.out);clear hb HF))
          refine ⟨⟨j+1,L,g,cap,rfl,by simp,by omega,hOk,?_,O2,B2⟩,by simp [intOf];omega⟩
          rw [HST.out];exact hM
        · have hst2:nskL ps an ad ac (List.take (j+1) l)=nskL ps an ad ac (List.take j l)++[((i:Int),F1)]:=by rw [hst,if_pos ⟨rfl,hic⟩]
          have HST:Hid _:=hst2
          have hic2:((i:Int) == ac)=false:=beq_eq_false_iff_ne.2 hic
          clear hst hst2
          go_wp2_with (first
            | (go_at_call 209;refine HF.out.mono ?_;rintro e w2 ⟨rfl,hb⟩;have B2:Hid (Below (W.heap.size+1) (W.alloc (.cells #[.string an,.string ad,.int .i64 af,.int .i64 al,.int .i64 az,.slice aa ak ao,.int .i64 ac,.int .i64 ai,.pointer (some ⟨b,0,none⟩)] 93)) w2):=hB.out.trans (hb.mono hNr);have O2:Hid (w2.ownsRow (W.heap.size+1) 93 9 (.slice (some ⟨g,0,none⟩) L.length cap) L.length (flat9 b L)):=rowBelow hO.out hb;clear q0 q1 q2 q3 q4 q5 q6 q7 q8 qL;obtain ⟨q0,q1,q2,q3,q4,q5,q6,q7,q8,qL⟩:=row9 ((B2.out.block W.heap.size (by omega)).trans HA9.out);clear hb HF)
            | (go_at_call 74;refine (HR.out _ B2.out).mono ?_;rintro e w3 ⟨⟨ma,mk,mo,rfl⟩,hb⟩;have B3:Hid (Below (W.heap.size+1) (W.alloc (.cells #[.string an,.string ad,.int .i64 af,.int .i64 al,.int .i64 az,.slice aa ak ao,.int .i64 ac,.int .i64 ai,.pointer (some ⟨b,0,none⟩)] 93)) w3):=B2.out.trans (hb.mono (Nat.le_trans (by simp) B2.out.size));have O3:Hid (w3.ownsRow (W.heap.size+1) 93 9 (.slice (some ⟨g,0,none⟩) L.length cap) L.length (flat9 b L)):=rowBelow O2.out hb;clear hb HR)
            | (at_builtin;refine wpList_append_lies _ rfl _ _ 103 rfl (W.heap.size+1) 93 i0 (.agg #[.string ⟨#[]⟩,.string ⟨#[]⟩,.int .i64 0,.int .i64 0,.int .i64 0,.slice none 0 0,.int .i64 0,.int .i64 0,.pointer none]) 9 104 Tryz.underlying103 hi0 hz0 hz1 hz2 rfl (by decide) (.slice (some ⟨g,0,none⟩) L.length cap) L.length (flat9 b L) rfl ((O3.out.alloc _).alloc _) ⟨w3.heap.size+1,0,none⟩ 1 1 (P9.cells b ⟨m.nm,m.ds,m.fl,m.lo,m.st,ma,mk,mo,(i:Int),F1⟩) rfl rfl ?c1 ?c2 (by omega) ?c3 ?c4 ?c5 _ rfl ?_))
          case c1 =>
            intro jj u hj
            rw [addr_add,Nat.zero_add]
            have hd:((w3.alloc (.cells #[.string m.nm,.string m.ds,.int .i64 m.fl,.int .i64 m.lo,.int .i64 m.st,.slice ma mk mo,.int .i64 (i:Int),.int .i64 F1,.pointer (some ⟨b,0,none⟩)] 93)).alloc (.cells #[.string m.nm,.string m.ds,.int .i64 m.fl,.int .i64 m.lo,.int .i64 m.st,.slice ma mk mo,.int .i64 (i:Int),.int .i64 F1,.pointer (some ⟨b,0,none⟩)] 93)).heap[w3.heap.size+1]?=some (.cells #[.string m.nm,.string m.ds,.int .i64 m.fl,.int .i64 m.lo,.int .i64 m.st,.slice ma mk mo,.int .i64 (i:Int),.int .i64 F1,.pointer (some ⟨b,0,none⟩)] 93 (0,0)):=halloc2 _ _ (by simp)
            rw [cell_of_row _ _ jj _ _ _ hd,← hj]
            simp only [P9.cells,List.getElem?_toArray]
          case c2=>intro u hu;exact flat9_one b [⟨m.nm,m.ds,m.fl,m.lo,m.st,ma,mk,mo,(i:Int),F1⟩] u (by rw [flat9_cons];exact List.mem_append_left _ hu)
          case c3=>unfold maxLen;omega
          case c4=>omega
          case c5=>have:=B3.out.size;simp at this;simp;omega
          intro g2 cap2 w4 hown hgrow _ _
          have B4:Hid (Below (W.heap.size+1) (W.alloc (.cells #[.string an,.string ad,.int .i64 af,.int .i64 al,.int .i64 az,.slice aa ak ao,.int .i64 ac,.int .i64 ai,.pointer (some ⟨b,0,none⟩)] 93)) w4):=by
            have hs3:W.heap.size+1≤w3.heap.size:=by have:=B3.out.size;simpa using this
            have hb1:Below (W.heap.size+1) (W.alloc (.cells #[.string an,.string ad,.int .i64 af,.int .i64 al,.int .i64 az,.slice aa ak ao,.int .i64 ac,.int .i64 ai,.pointer (some ⟨b,0,none⟩)] 93)) ((w3.alloc (.cells #[.string m.nm,.string m.ds,.int .i64 m.fl,.int .i64 m.lo,.int .i64 m.st,.slice ma mk mo,.int .i64 (i:Int),.int .i64 F1,.pointer (some ⟨b,0,none⟩)] 93)).alloc (.cells #[.string m.nm,.string m.ds,.int .i64 m.fl,.int .i64 m.lo,.int .i64 m.st,.slice ma mk mo,.int .i64 (i:Int),.int .i64 F1,.pointer (some ⟨b,0,none⟩)] 93)):=(B3.out.alloc hs3 _).alloc (by simp;omega) _
            refine hb1.grown hgrow (by simp;omega) (fun x hx=>?_)
            have:=(O3.out.lt x hx).1
            omega
          have O4:Hid (w4.ownsRow (W.heap.size+1) 93 9 (.slice (some ⟨g2,0,none⟩) (L.length+1) cap2) (L++([⟨m.nm,m.ds,m.fl,m.lo,m.st,ma,mk,mo,(i:Int),F1⟩]:List P9)).length (flat9 b (L++([⟨m.nm,m.ds,m.fl,m.lo,m.st,ma,mk,mo,(i:Int),F1⟩]:List P9)))):=by
            rw [Hid,List.length_append,flat9_app];exact hown
          go_wp2
          refine ⟨⟨j+1,L++([⟨m.nm,m.ds,m.fl,m.lo,m.st,ma,mk,mo,(i:Int),F1⟩]:List P9),g2,cap2,(by simp),by simp,by omega,?_,?_,?_,B4⟩,by simp [intOf];omega⟩
          · intro y hy
            rcases List.mem_append.1 hy with hy|hy
            · exact hOk.out y hy
            · rw [List.mem_singleton] at hy
              subst hy
              exact ⟨m,HM.out,rfl,rfl,rfl⟩
          · rw [Hid,List.map_append,hM.out,HST.out];rfl
          · have:=O4.out;rw [List.length_append] at this ⊢;exact this
      · have hst2:nskL ps an ad ac (List.take (j+1) l)=nskL ps an ad ac (List.take j l):=by rw [hst,if_neg (fun h=>hF h.1),List.append_nil]
        have HST:Hid _:=hst2
        generalize fndI ps i an ad=F at *
        obtain ⟨F1,F2⟩:=F
        simp only at HF hF
        clear hst hst2 hil hjl hv2
        go_wp2_with (first
          | (go_at_call 209;refine HF.out.mono ?_;rintro e w2 ⟨rfl,hb⟩;have B2:Hid (Below (W.heap.size+1) (W.alloc (.cells #[.string an,.string ad,.int .i64 af,.int .i64 al,.int .i64 az,.slice aa ak ao,.int .i64 ac,.int .i64 ai,.pointer (some ⟨b,0,none⟩)] 93)) w2):=hB.out.trans (hb.mono hNr);have O2:Hid (w2.ownsRow (W.heap.size+1) 93 9 (.slice (some ⟨g,0,none⟩) L.length cap) L.length (flat9 b L)):=rowBelow hO.out hb;clear q0 q1 q2 q3 q4 q5 q6 q7 q8 qL;obtain ⟨q0,q1,q2,q3,q4,q5,q6,q7,q8,qL⟩:=row9 ((B2.out.block W.heap.size (by omega)).trans HA9.out);clear hb HF))
        refine ⟨⟨j+1,L,g,cap,rfl,by simp,by omega,hOk,?_,O2,B2⟩,by simp [intOf];omega⟩
        rw [HST.out];exact hM
    · have e:j=K:=by omega
      subst e
      have HE:Hid (l.take j=l):=by rw [Hid,List.take_of_length_le (by rw [HK.out];exact Nat.le_refl _)]
      go_wp2
      refine bodyPost_ret (results_tmp rfl _ _ _) rfl ⟨L,g,cap,rfl,hOk.out,?_,Go.Joins.ownsRow_le hO.out (by omega),BW.out⟩
      rw [hM.out,HE.out];rfl
theorem any_pl {ps:List Plc} {x:P9} (hx:OkP ps x):∀ {l:List P9},(∀ y∈l,OkP ps y)→l.any (fun y=>plnB ps x.nm x.ds x.fl x.c y.nm y.ds y.fl y.c)=(l.map P9.id).any (plI ps x.id)
  | [],_=>rfl
  | y::r,h=>by
    rw [List.any_cons,List.map_cons,List.any_cons,hx.pl (h y List.mem_cons_self),any_pl hx (fun z hz=>h z (List.mem_cons_of_mem _ hz))]
structure GthR (ps:List Plc) (a:Int×Int) (L R:List P9) (k i:Nat):Prop where
  ki:k≤i
  iL:i≤L.length
  len:R.length=L.length
  suf:∀ n,i≤n→R[n]?=L[n]?
  ok:∀ y∈R,OkP ps y
  pre:(R.take k).map P9.id=gthL ps a ((L.take i).map P9.id)
theorem GthR.start {ps:List Plc} {a:Int×Int} {L:List P9} (h:∀ y∈L,OkP ps y):GthR ps a L L 0 0:=⟨Nat.le_refl _,Nat.zero_le _,rfl,fun _ _=>rfl,h,rfl⟩
theorem GthR.next {ps:List Plc} {a:Int×Int} {L R:List P9} {k i:Nat} (h:GthR ps a L R k i) {x:P9} (hx:L[i]?=some x):gthL ps a ((L.take (i+1)).map P9.id)=gth1 ps a ((R.take k).map P9.id) x.id:=by
  rw [List.take_add_one,hx,List.map_append,h.pre]
  exact gthL_snoc _ _ _ _
theorem GthR.mem {ps:List Plc} {a:Int×Int} {L R:List P9} {k i:Nat} (h:GthR ps a L R k i) {x:P9} (hx:L[i]?=some x):OkP ps x:=h.ok x (List.mem_of_getElem? ((h.suf i (Nat.le_refl _)).trans hx))
theorem GthR.keep {ps:List Plc} {a:Int×Int} {L R:List P9} {k i:Nat} (h:GthR ps a L R k i) {x:P9} (hx:L[i]?=some x) (hc:((eqI x.id a&&!stB x.fl)||(R.take k).any (fun y=>plnB ps x.nm x.ds x.fl x.c y.nm y.ds y.fl y.c))=true):GthR ps a L (R.take k++[x]++R.drop (k+1)) (k+1) (i+1):=by
  have hi:=(List.getElem?_eq_some_iff.1 hx).1
  have h1:=h.ki
  have h2:=h.len
  have hok:=h.mem hx
  have htl:(R.take k++[x]).length=k+1:=by simp;omega
  refine ⟨by omega,by omega,by simp;omega,fun n hn=>?_,fun y hy=>?_,?_⟩
  · rw [List.getElem?_append_right (by rw [htl];omega),htl,List.getElem?_drop,show k+1+(n - (k+1))=n by omega]
    exact h.suf n (by omega)
  · rcases List.mem_append.1 hy with hy|hy
    · rcases List.mem_append.1 hy with hy|hy
      · exact h.ok y (List.mem_of_mem_take hy)
      · rw [List.mem_singleton] at hy;subst hy;exact hok
    · exact h.ok y (List.mem_of_mem_drop hy)
  · rw [h.next hx,List.take_left' htl,gth1]
    rw [hok.st,any_pl hok (fun y hy=>h.ok y (List.mem_of_mem_take hy))] at hc
    rw [if_pos hc,List.map_append];rfl
theorem GthR.skip {ps:List Plc} {a:Int×Int} {L R:List P9} {k i:Nat} (h:GthR ps a L R k i) {x:P9} (hx:L[i]?=some x) (hc:((eqI x.id a&&!stB x.fl)||(R.take k).any (fun y=>plnB ps x.nm x.ds x.fl x.c y.nm y.ds y.fl y.c))=false):GthR ps a L R k (i+1):=by
  have hi:=(List.getElem?_eq_some_iff.1 hx).1
  have h1:=h.ki
  have hok:=h.mem hx
  refine ⟨by omega,by omega,h.len,fun n hn=>h.suf n (by omega),h.ok,?_⟩
  rw [h.next hx,gth1]
  rw [hok.st,any_pl hok (fun y hy=>h.ok y (List.mem_of_mem_take hy))] at hc
  rw [if_neg (by rw [hc];decide)]
theorem callPl (vs:Array Value) (w:World):(callFunc 65 vs).run Tryz.prog w=.ok (.enter 65 vs) w:=by simp [go_sem]
set_option maxHeartbeats 8000000 in
theorem gth_c {b:Nat} {ps:List Plc} {W:World} (h:WAt b ps W) (hi:WI ps) (x:P9) (hx:OkP ps x) (v:Value) (l:List Nat) (hv:Rds W v l.length 1 (l.map numV)) (hn:l.length≤300) :
    Calls Tryz.prog 70 #[x.agg b,v] W fun e w'=>∃ (L:List P9) (g cap:Nat),e=.returned (.slice (some ⟨g,0,none⟩) L.length cap)∧(∀ y∈L,OkP ps y)∧L.map P9.id=gthL ps x.id (x.id::nskL ps x.nm x.ds x.c l)∧w'.ownsRow W.heap.size 93 9 (.slice (some ⟨g,0,none⟩) L.length cap) L.length (flat9 b L)∧Below W.heap.size W w':=by
  obtain ⟨i0,hi0,hz0,hz1,hz2⟩:=info_parts Tryz.hinfoP9
  have HNS:Hid (∀ w,Below W.heap.size W w→Calls Tryz.prog 150 #[x.agg b,v] w fun e w'=>∃ (L:List P9) (g cap:Nat),e=.returned (.slice (some ⟨g,0,none⟩) L.length cap)∧(∀ y∈L,OkP ps y)∧L.map P9.id=x.id::nskL ps x.nm x.ds x.c l∧w'.ownsRow w.heap.size 93 9 (.slice (some ⟨g,0,none⟩) L.length cap) L.length (flat9 b L)∧Below w.heap.size w w'):=fun w hb=>nsk_c (h.below hb) hi x hx v l (hv.keep hb) hn
  have hll:(x.id::nskL ps x.nm x.ds x.c l).length≤301:=by
    have:=nskL_len ps x.nm x.ds x.c l
    rw [List.length_cons];omega
  generalize x.id::nskL ps x.nm x.ds x.c l=I at *
  obtain ⟨va,vc,rfl⟩:=hv.slice
  obtain ⟨an,ad,af,al,az,aa,ak,ao,ac,ai⟩:=x
  simp only [P9.agg,P9.id] at HNS ⊢
  have HU:Hid (WAt b ps (W.alloc (.cells #[.string an,.string ad,.int .i64 af,.int .i64 al,.int .i64 az,.slice aa ak ao,.int .i64 ac,.int .i64 ai,.pointer (some ⟨b,0,none⟩)] 93))):=h.below ((Below.refl _ _).alloc (Nat.le_refl _) _)
  have HA9:Hid ((W.alloc (.cells #[.string an,.string ad,.int .i64 af,.int .i64 al,.int .i64 az,.slice aa ak ao,.int .i64 ac,.int .i64 ai,.pointer (some ⟨b,0,none⟩)] 93)).heap[W.heap.size]?=some (.cells #[.string an,.string ad,.int .i64 af,.int .i64 al,.int .i64 az,.slice aa ak ao,.int .i64 ac,.int .i64 ai,.pointer (some ⟨b,0,none⟩)] 93 (0,0))):=halloc1 _ _
  have HI:Hid (WI ps):=hi
  clear hv h hi hx
  go_enter Tryz.func70,Tryz.ntmps70
  go_wp2_with (go_at_call 150;refine (HNS.out _ (by repeat (first|exact Below.refl _ _|refine Below.setCell ?_ (by simp;try omega) _|refine Below.alloc ?_ (by simp;try omega) _|refine Below.drew ?_))).mono ?_;rintro e w1 ⟨L,g,cap,rfl,hok,hid,ho,hb⟩;have OK1:Hid (∀ y∈L,OkP ps y):=hok;have ID1:Hid (L.map P9.id=I):=hid;have O1:Hid (w1.ownsRow (W.heap.size+1) 93 9 (.slice (some ⟨g,0,none⟩) L.length cap) L.length (flat9 b L)):=Go.Joins.ownsRow_le ho (by simp);have B1:Hid (Below (W.heap.size+1) (W.alloc (.cells #[.string an,.string ad,.int .i64 af,.int .i64 al,.int .i64 az,.slice aa ak ao,.int .i64 ac,.int .i64 ai,.pointer (some ⟨b,0,none⟩)] 93)) w1):=Below.mono hb (by simp);clear ho hb hok hid HNS)
  have hll2:L.length≤301:=by rw [← ID1.out,List.length_map] at hll;exact hll
  obtain ⟨K,hK⟩:∃ K,L.length=K:=⟨_,rfl⟩
  have HK:Hid (L.length=K):=hK
  rw [hK] at O1 hll2
  rw [hK]
  have hgN:W.heap.size+1≤g:=(O1.out.lt g rfl).1
  have hKc:K≤cap:=by
    rcases O1.out.2 with ⟨e,_⟩|⟨g',cap',cur,e,_,_,h3,_⟩
    · simp at e
    · simp only [Value.slice.injEq,Option.some.injEq,Addr.mk.injEq,and_true,true_and] at e
      obtain ⟨rfl,rfl⟩:=e
      exact h3
  clear hK hll
  go_wp2
  go_loopw [6,16] (fun sv kv wr=>∃ (i k:Nat) (R:List P9),sv=.slice (some ⟨g,0,none⟩) k cap∧kv=.int .i64 i∧k≤i∧i≤K∧Hid (GthR ps (ac,ai) L R k i)∧Hid (wr.ownsRow (W.heap.size+1) 93 9 (.slice (some ⟨g,0,none⟩) K cap) K (flat9 b R))∧Hid (Below (W.heap.size+1) (W.alloc (.cells #[.string an,.string ad,.int .i64 af,.int .i64 al,.int .i64 az,.slice aa ak ao,.int .i64 ac,.int .i64 ai,.pointer (some ⟨b,0,none⟩)] 93)) wr)) (fun _ kv _=>K - (intOf kv).toNat)
  case atStart=>exact ⟨0,0,L,rfl,rfl,Nat.le_refl _,Nat.zero_le _,GthR.start OK1.out,O1,B1⟩
  case round =>
    obtain ⟨i,k,R,rfl,rfl,hki,hiK,hG,hO,hB⟩:=hrel
    have hNr:W.heap.size+1≤wr.heap.size:=by have:=hB.out.size;simpa using this
    by_cases hlt:i<K
    · obtain ⟨x,hx⟩:∃ x,L[i]?=some x:=⟨_,List.getElem?_eq_getElem (by rw [HK.out];exact hlt)⟩
      obtain ⟨e0,e1,e2,e3,e4,e5,e6,e7,e8,_⟩:=row9_cells hO.out ((hG.out.suf i (Nat.le_refl _)).trans hx)
      obtain ⟨q0,q1,q2,q3,q4,q5,q6,q7,q8,qL⟩:=row9 ((hB.out.block W.heap.size (by omega)).trans HA9.out)
      have hRK:R.length=K:=hG.out.len.trans HK.out
      have HKE:Hid (((eqI x.id (ac,ai)&&!stB x.fl)||(R.take k).any (fun y=>plnB ps x.nm x.ds x.fl x.c y.nm y.ds y.fl y.c))=true→GthR ps (ac,ai) L (R.take k++[x]++R.drop (k+1)) (k+1) (i+1)):=hG.out.keep hx
      have HSK:Hid (((eqI x.id (ac,ai)&&!stB x.fl)||(R.take k).any (fun y=>plnB ps x.nm x.ds x.fl x.c y.nm y.ds y.fl y.c))=false→GthR ps (ac,ai) L R k (i+1)):=hG.out.skip hx
      have HC9:Hid (∀ w,Below wr.heap.size wr w→Calls Tryz.prog 69 #[.slice (some ⟨g,0,none⟩) k cap,.func (.func 65) #[x.agg b] #[]] w fun e w'=>e=.returned (.bool ((R.take k).any (fun y=>plnB ps x.nm x.ds x.fl x.c y.nm y.ds y.fl y.c)))∧Below w.heap.size w w'):=fun w hb=>by
        have hcut:=row_cut (rowBelow hO.out hb) (show k≤K by omega)
        rw [flat9_take] at hcut
        have hkl:(R.take k).length=k:=by rw [List.length_take];omega
        have:=con9_any 65 callPl (x.agg b) (fun y=>plnB ps x.nm x.ds x.fl x.c y.nm y.ds y.fl y.c) (W.heap.size+1) b (R.take k) (.slice (some ⟨g,0,none⟩) k cap) w (by rw [hkl];exact hcut) (by rw [hkl];omega) (fun y _ w2 hb2=>plain_c (HU.out.below (by have:=(hB.out.trans (hb.mono hNr)).trans (hb2.mono (Nat.le_trans hNr hb.size));simpa using this)) HI.out x.nm x.ds x.fl x.lo x.st x.sa x.sk x.so x.c x.i y.nm y.ds y.fl y.lo y.st y.sa y.sk y.so y.c y.i)
        exact this
      have HI9:Hid (∀ w:World,Calls Tryz.prog 71 #[x.agg b,.agg #[.string an,.string ad,.int .i64 af,.int .i64 al,.int .i64 az,.slice aa ak ao,.int .i64 ac,.int .i64 ai,.pointer (some ⟨b,0,none⟩)]] w fun e w'=>e=.returned (.bool (eqI x.id (ac,ai)))∧Below w.heap.size w w'):=fun w=>is_c b x.nm x.ds x.fl x.lo x.st x.sa x.sk x.so x.c x.i an ad af al az aa ak ao ac ai w
      have HS9:Hid (∀ w:World,Calls Tryz.prog 151 #[x.agg b] w fun e w'=>e=.returned (.bool (stB x.fl))∧Below w.heap.size w w'):=fun w=>isStatic_c b x.nm x.ds x.fl x.lo x.st x.sa x.sk x.so x.c x.i w
      generalize eqI x.id (ac,ai)=E at *
      generalize (R.take k).any (fun y=>plnB ps x.nm x.ds x.fl x.c y.nm y.ds y.fl y.c)=Q at *
      obtain ⟨xn,xd,xf,xl,xs,xa,xk,xo,xc,xi⟩:=x
      simp only [P9.agg] at e0 e1 e2 e3 e4 e5 e6 e7 e8 HC9 HI9 HS9 HKE HSK
      generalize stB xf=S at *
      have HX9:Hid ((wr.alloc (.cells #[.string xn,.string xd,.int .i64 xf,.int .i64 xl,.int .i64 xs,.slice xa xk xo,.int .i64 xc,.int .i64 xi,.pointer (some ⟨b,0,none⟩)] 93)).heap[wr.heap.size]?=some (.cells #[.string xn,.string xd,.int .i64 xf,.int .i64 xl,.int .i64 xs,.slice xa xk xo,.int .i64 xc,.int .i64 xi,.pointer (some ⟨b,0,none⟩)] 93 (0,0))):=halloc1 _ _
      clear hx
      cases E
      case false =>
        clear HS9
        cases Q
        case false =>
          go_wp2_with (first
            | (go_at_call 71;refine (HI9.out _).mono ?_;rintro e w2 ⟨rfl,hb⟩;have Bw2:Hid (Below (wr.heap.size+1) (wr.alloc (.cells #[.string xn,.string xd,.int .i64 xf,.int .i64 xl,.int .i64 xs,.slice xa xk xo,.int .i64 xc,.int .i64 xi,.pointer (some ⟨b,0,none⟩)] 93)) w2):=Below.mono hb (by simp);have Ow2:Hid (w2.ownsRow (W.heap.size+1) 93 9 (.slice (some ⟨g,0,none⟩) K cap) K (flat9 b R)):=rowBelow (hO.out.alloc _) hb;obtain ⟨r0,r1,r2,r3,r4,r5,r6,r7,r8,rL⟩:=row9 ((Bw2.out.block wr.heap.size (by omega)).trans HX9.out);clear hb HI9)
            | (go_at_call 69;refine (HC9.out _ (Below.trans ((Below.refl _ _).alloc (Nat.le_refl _) _) (Bw2.out.mono (by omega)))).mono ?_;rintro e w3 ⟨rfl,hb⟩;have Bw3:Hid (Below (wr.heap.size+1) (wr.alloc (.cells #[.string xn,.string xd,.int .i64 xf,.int .i64 xl,.int .i64 xs,.slice xa xk xo,.int .i64 xc,.int .i64 xi,.pointer (some ⟨b,0,none⟩)] 93)) w3):=Bw2.out.trans (hb.mono (Nat.le_trans (by simp) Bw2.out.size));have Ow3:Hid (w3.ownsRow (W.heap.size+1) 93 9 (.slice (some ⟨g,0,none⟩) K cap) K (flat9 b R)):=rowBelow Ow2.out hb;clear r0 r1 r2 r3 r4 r5 r6 r7 r8 rL;obtain ⟨r0,r1,r2,r3,r4,r5,r6,r7,r8,rL⟩:=row9 ((Bw3.out.block wr.heap.size (by omega)).trans HX9.out);clear hb))
          have hsz:wr.heap.size+1≤w3.heap.size:=by have:=Bw3.out.size;simpa using this
          have B8:Hid (Below (W.heap.size+1) (W.alloc (.cells #[.string an,.string ad,.int .i64 af,.int .i64 al,.int .i64 az,.slice aa ak ao,.int .i64 ac,.int .i64 ai,.pointer (some ⟨b,0,none⟩)] 93)) w3):=(hB.out.alloc hNr _).trans (Bw3.out.mono (by omega))
          refine ⟨⟨i+1,k,R,rfl,by simp,by omega,by omega,HSK.out rfl,Ow3,B8⟩,by simp [intOf];omega⟩
        case true =>
          go_wp2_with (first
            | (go_at_call 71;refine (HI9.out _).mono ?_;rintro e w2 ⟨rfl,hb⟩;have Bw2:Hid (Below (wr.heap.size+1) (wr.alloc (.cells #[.string xn,.string xd,.int .i64 xf,.int .i64 xl,.int .i64 xs,.slice xa xk xo,.int .i64 xc,.int .i64 xi,.pointer (some ⟨b,0,none⟩)] 93)) w2):=Below.mono hb (by simp);have Ow2:Hid (w2.ownsRow (W.heap.size+1) 93 9 (.slice (some ⟨g,0,none⟩) K cap) K (flat9 b R)):=rowBelow (hO.out.alloc _) hb;obtain ⟨r0,r1,r2,r3,r4,r5,r6,r7,r8,rL⟩:=row9 ((Bw2.out.block wr.heap.size (by omega)).trans HX9.out);clear hb HI9)
            | (go_at_call 69;refine (HC9.out _ (Below.trans ((Below.refl _ _).alloc (Nat.le_refl _) _) (Bw2.out.mono (by omega)))).mono ?_;rintro e w3 ⟨rfl,hb⟩;have Bw3:Hid (Below (wr.heap.size+1) (wr.alloc (.cells #[.string xn,.string xd,.int .i64 xf,.int .i64 xl,.int .i64 xs,.slice xa xk xo,.int .i64 xc,.int .i64 xi,.pointer (some ⟨b,0,none⟩)] 93)) w3):=Bw2.out.trans (hb.mono (Nat.le_trans (by simp) Bw2.out.size));have Ow3:Hid (w3.ownsRow (W.heap.size+1) 93 9 (.slice (some ⟨g,0,none⟩) K cap) K (flat9 b R)):=rowBelow Ow2.out hb;clear r0 r1 r2 r3 r4 r5 r6 r7 r8 rL;obtain ⟨r0,r1,r2,r3,r4,r5,r6,r7,r8,rL⟩:=row9 ((Bw3.out.block wr.heap.size (by omega)).trans HX9.out);clear hb)
            | (at_builtin;refine wpList_append_over _ rfl _ _ 103 rfl (W.heap.size+1) 93 i0 9 Tryz.underlying103 hi0 hz1 g k K cap (flat9 b R) rfl (Ow3.out.alloc _) ⟨w3.heap.size,0,none⟩ 1 1 (P9.cells b ⟨xn,xd,xf,xl,xs,xa,xk,xo,xc,xi⟩) rfl rfl ?c1 ?c2 (by omega) ?_))
          case c1 =>
            intro jj u hj
            rw [addr_add,Nat.zero_add]
            have hd:(w3.alloc (.cells #[.string xn,.string xd,.int .i64 xf,.int .i64 xl,.int .i64 xs,.slice xa xk xo,.int .i64 xc,.int .i64 xi,.pointer (some ⟨b,0,none⟩)] 93)).heap[w3.heap.size]?=some (.cells #[.string xn,.string xd,.int .i64 xf,.int .i64 xl,.int .i64 xs,.slice xa xk xo,.int .i64 xc,.int .i64 xi,.pointer (some ⟨b,0,none⟩)] 93 (0,0)):=halloc1 _ _
            rw [cell_of_row _ _ jj _ _ _ hd,← hj]
            simp only [P9.cells,List.getElem?_toArray]
          case c2=>intro u hu;exact flat9_one b [⟨xn,xd,xf,xl,xs,xa,xk,xo,xc,xi⟩] u (by rw [flat9_cons];exact List.mem_append_left _ hu)
          intro w8 hown hgrow
          have hGK:=hG.out.len
          have O8:Hid (w8.ownsRow (W.heap.size+1) 93 9 (.slice (some ⟨g,0,none⟩) K cap) K (flat9 b (R.take k++[(⟨xn,xd,xf,xl,xs,xa,xk,xo,xc,xi⟩:P9)]++R.drop (k+1)))):=by
            rw [Hid,flat9_app,flat9_app,← flat9_take,← flat9_drop]
            have e:flat9 b [(⟨xn,xd,xf,xl,xs,xa,xk,xo,xc,xi⟩:P9)]=P9.cells b ⟨xn,xd,xf,xl,xs,xa,xk,xo,xc,xi⟩:=by rw [flat9_cons];exact List.append_nil _
            rw [e,List.append_assoc];exact hown
          have hsz:wr.heap.size+1≤w3.heap.size:=by have:=Bw3.out.size;simpa using this
          have B8:Hid (Below (W.heap.size+1) (W.alloc (.cells #[.string an,.string ad,.int .i64 af,.int .i64 al,.int .i64 az,.slice aa ak ao,.int .i64 ac,.int .i64 ai,.pointer (some ⟨b,0,none⟩)] 93)) w8):=by
            have hb1:Below (W.heap.size+1) (W.alloc (.cells #[.string an,.string ad,.int .i64 af,.int .i64 al,.int .i64 az,.slice aa ak ao,.int .i64 ac,.int .i64 ai,.pointer (some ⟨b,0,none⟩)] 93)) (w3.alloc (.cells #[.string xn,.string xd,.int .i64 xf,.int .i64 xl,.int .i64 xs,.slice xa xk xo,.int .i64 xc,.int .i64 xi,.pointer (some ⟨b,0,none⟩)] 93)):=((hB.out.alloc hNr _).trans (Bw3.out.mono (by omega))).alloc (by omega) _
            refine hb1.grown hgrow (by simp;omega) (fun x hx=>?_)
            cases hx;exact hgN
          go_wp2
          refine ⟨⟨i+1,k+1,R.take k++[(⟨xn,xd,xf,xl,xs,xa,xk,xo,xc,xi⟩:P9)]++R.drop (k+1),rfl,by simp,by omega,by omega,HKE.out rfl,O8,B8⟩,by simp [intOf];omega⟩
      case true =>
        cases S
        case false =>
          clear HC9
          go_wp2_with (first
            | (go_at_call 71;refine (HI9.out _).mono ?_;rintro e w2 ⟨rfl,hb⟩;have Bw2:Hid (Below (wr.heap.size+1) (wr.alloc (.cells #[.string xn,.string xd,.int .i64 xf,.int .i64 xl,.int .i64 xs,.slice xa xk xo,.int .i64 xc,.int .i64 xi,.pointer (some ⟨b,0,none⟩)] 93)) w2):=Below.mono hb (by simp);have Ow2:Hid (w2.ownsRow (W.heap.size+1) 93 9 (.slice (some ⟨g,0,none⟩) K cap) K (flat9 b R)):=rowBelow (hO.out.alloc _) hb;obtain ⟨r0,r1,r2,r3,r4,r5,r6,r7,r8,rL⟩:=row9 ((Bw2.out.block wr.heap.size (by omega)).trans HX9.out);clear hb HI9)
            | (go_at_call 151;refine (HS9.out _).mono ?_;rintro e w3 ⟨rfl,hb⟩;have Bw3:Hid (Below (wr.heap.size+1) (wr.alloc (.cells #[.string xn,.string xd,.int .i64 xf,.int .i64 xl,.int .i64 xs,.slice xa xk xo,.int .i64 xc,.int .i64 xi,.pointer (some ⟨b,0,none⟩)] 93)) w3):=Bw2.out.trans (hb.mono (Nat.le_trans (by simp) Bw2.out.size));have Ow3:Hid (w3.ownsRow (W.heap.size+1) 93 9 (.slice (some ⟨g,0,none⟩) K cap) K (flat9 b R)):=rowBelow Ow2.out hb;clear r0 r1 r2 r3 r4 r5 r6 r7 r8 rL;obtain ⟨r0,r1,r2,r3,r4,r5,r6,r7,r8,rL⟩:=row9 ((Bw3.out.block wr.heap.size (by omega)).trans HX9.out);clear hb)
            | (at_builtin;refine wpList_append_over _ rfl _ _ 103 rfl (W.heap.size+1) 93 i0 9 Tryz.underlying103 hi0 hz1 g k K cap (flat9 b R) rfl (Ow3.out.alloc _) ⟨w3.heap.size,0,none⟩ 1 1 (P9.cells b ⟨xn,xd,xf,xl,xs,xa,xk,xo,xc,xi⟩) rfl rfl ?c1 ?c2 (by omega) ?_))
          case c1 =>
            intro jj u hj
            rw [addr_add,Nat.zero_add]
            have hd:(w3.alloc (.cells #[.string xn,.string xd,.int .i64 xf,.int .i64 xl,.int .i64 xs,.slice xa xk xo,.int .i64 xc,.int .i64 xi,.pointer (some ⟨b,0,none⟩)] 93)).heap[w3.heap.size]?=some (.cells #[.string xn,.string xd,.int .i64 xf,.int .i64 xl,.int .i64 xs,.slice xa xk xo,.int .i64 xc,.int .i64 xi,.pointer (some ⟨b,0,none⟩)] 93 (0,0)):=halloc1 _ _
            rw [cell_of_row _ _ jj _ _ _ hd,← hj]
            simp only [P9.cells,List.getElem?_toArray]
          case c2=>intro u hu;exact flat9_one b [⟨xn,xd,xf,xl,xs,xa,xk,xo,xc,xi⟩] u (by rw [flat9_cons];exact List.mem_append_left _ hu)
          intro w8 hown hgrow
          have hGK:=hG.out.len
          have O8:Hid (w8.ownsRow (W.heap.size+1) 93 9 (.slice (some ⟨g,0,none⟩) K cap) K (flat9 b (R.take k++[(⟨xn,xd,xf,xl,xs,xa,xk,xo,xc,xi⟩:P9)]++R.drop (k+1)))):=by
            rw [Hid,flat9_app,flat9_app,← flat9_take,← flat9_drop]
            have e:flat9 b [(⟨xn,xd,xf,xl,xs,xa,xk,xo,xc,xi⟩:P9)]=P9.cells b ⟨xn,xd,xf,xl,xs,xa,xk,xo,xc,xi⟩:=by rw [flat9_cons];exact List.append_nil _
            rw [e,List.append_assoc];exact hown
          have hsz:wr.heap.size+1≤w3.heap.size:=by have:=Bw3.out.size;simpa using this
          have B8:Hid (Below (W.heap.size+1) (W.alloc (.cells #[.string an,.string ad,.int .i64 af,.int .i64 al,.int .i64 az,.slice aa ak ao,.int .i64 ac,.int .i64 ai,.pointer (some ⟨b,0,none⟩)] 93)) w8):=by
            have hb1:Below (W.heap.size+1) (W.alloc (.cells #[.string an,.string ad,.int .i64 af,.int .i64 al,.int .i64 az,.slice aa ak ao,.int .i64 ac,.int .i64 ai,.pointer (some ⟨b,0,none⟩)] 93)) (w3.alloc (.cells #[.string xn,.string xd,.int .i64 xf,.int .i64 xl,.int .i64 xs,.slice xa xk xo,.int .i64 xc,.int .i64 xi,.pointer (some ⟨b,0,none⟩)] 93)):=((hB.out.alloc hNr _).trans (Bw3.out.mono (by omega))).alloc (by omega) _
            refine hb1.grown hgrow (by simp;omega) (fun x hx=>?_)
            cases hx;exact hgN
          go_wp2
          refine ⟨⟨i+1,k+1,R.take k++[(⟨xn,xd,xf,xl,xs,xa,xk,xo,xc,xi⟩:P9)]++R.drop (k+1),rfl,by simp,by omega,by omega,HKE.out rfl,O8,B8⟩,by simp [intOf];omega⟩
        case true =>
          cases Q
          case false =>
            go_wp2_with (first
              | (go_at_call 71;refine (HI9.out _).mono ?_;rintro e w2 ⟨rfl,hb⟩;have Bw2:Hid (Below (wr.heap.size+1) (wr.alloc (.cells #[.string xn,.string xd,.int .i64 xf,.int .i64 xl,.int .i64 xs,.slice xa xk xo,.int .i64 xc,.int .i64 xi,.pointer (some ⟨b,0,none⟩)] 93)) w2):=Below.mono hb (by simp);have Ow2:Hid (w2.ownsRow (W.heap.size+1) 93 9 (.slice (some ⟨g,0,none⟩) K cap) K (flat9 b R)):=rowBelow (hO.out.alloc _) hb;obtain ⟨r0,r1,r2,r3,r4,r5,r6,r7,r8,rL⟩:=row9 ((Bw2.out.block wr.heap.size (by omega)).trans HX9.out);clear hb HI9)
              | (go_at_call 151;refine (HS9.out _).mono ?_;rintro e w3 ⟨rfl,hb⟩;have Bw3:Hid (Below (wr.heap.size+1) (wr.alloc (.cells #[.string xn,.string xd,.int .i64 xf,.int .i64 xl,.int .i64 xs,.slice xa xk xo,.int .i64 xc,.int .i64 xi,.pointer (some ⟨b,0,none⟩)] 93)) w3):=Bw2.out.trans (hb.mono (Nat.le_trans (by simp) Bw2.out.size));have Ow3:Hid (w3.ownsRow (W.heap.size+1) 93 9 (.slice (some ⟨g,0,none⟩) K cap) K (flat9 b R)):=rowBelow Ow2.out hb;clear r0 r1 r2 r3 r4 r5 r6 r7 r8 rL;obtain ⟨r0,r1,r2,r3,r4,r5,r6,r7,r8,rL⟩:=row9 ((Bw3.out.block wr.heap.size (by omega)).trans HX9.out);clear hb)
              | (go_at_call 69;refine (HC9.out _ (Below.trans ((Below.refl _ _).alloc (Nat.le_refl _) _) (Bw3.out.mono (by omega)))).mono ?_;rintro e w4 ⟨rfl,hb⟩;have Bw4:Hid (Below (wr.heap.size+1) (wr.alloc (.cells #[.string xn,.string xd,.int .i64 xf,.int .i64 xl,.int .i64 xs,.slice xa xk xo,.int .i64 xc,.int .i64 xi,.pointer (some ⟨b,0,none⟩)] 93)) w4):=Bw3.out.trans (hb.mono (Nat.le_trans (by simp) Bw3.out.size));have Ow4:Hid (w4.ownsRow (W.heap.size+1) 93 9 (.slice (some ⟨g,0,none⟩) K cap) K (flat9 b R)):=rowBelow Ow3.out hb;clear r0 r1 r2 r3 r4 r5 r6 r7 r8 rL;obtain ⟨r0,r1,r2,r3,r4,r5,r6,r7,r8,rL⟩:=row9 ((Bw4.out.block wr.heap.size (by omega)).trans HX9.out);clear hb))
            have hsz:wr.heap.size+1≤w4.heap.size:=by have:=Bw4.out.size;simpa using this
            have B8:Hid (Below (W.heap.size+1) (W.alloc (.cells #[.string an,.string ad,.int .i64 af,.int .i64 al,.int .i64 az,.slice aa ak ao,.int .i64 ac,.int .i64 ai,.pointer (some ⟨b,0,none⟩)] 93)) w4):=(hB.out.alloc hNr _).trans (Bw4.out.mono (by omega))
            refine ⟨⟨i+1,k,R,rfl,by simp,by omega,by omega,HSK.out rfl,Ow4,B8⟩,by simp [intOf];omega⟩
          case true =>
            go_wp2_with (first
              | (go_at_call 71;refine (HI9.out _).mono ?_;rintro e w2 ⟨rfl,hb⟩;have Bw2:Hid (Below (wr.heap.size+1) (wr.alloc (.cells #[.string xn,.string xd,.int .i64 xf,.int .i64 xl,.int .i64 xs,.slice xa xk xo,.int .i64 xc,.int .i64 xi,.pointer (some ⟨b,0,none⟩)] 93)) w2):=Below.mono hb (by simp);have Ow2:Hid (w2.ownsRow (W.heap.size+1) 93 9 (.slice (some ⟨g,0,none⟩) K cap) K (flat9 b R)):=rowBelow (hO.out.alloc _) hb;obtain ⟨r0,r1,r2,r3,r4,r5,r6,r7,r8,rL⟩:=row9 ((Bw2.out.block wr.heap.size (by omega)).trans HX9.out);clear hb HI9)
              | (go_at_call 151;refine (HS9.out _).mono ?_;rintro e w3 ⟨rfl,hb⟩;have Bw3:Hid (Below (wr.heap.size+1) (wr.alloc (.cells #[.string xn,.string xd,.int .i64 xf,.int .i64 xl,.int .i64 xs,.slice xa xk xo,.int .i64 xc,.int .i64 xi,.pointer (some ⟨b,0,none⟩)] 93)) w3):=Bw2.out.trans (hb.mono (Nat.le_trans (by simp) Bw2.out.size));have Ow3:Hid (w3.ownsRow (W.heap.size+1) 93 9 (.slice (some ⟨g,0,none⟩) K cap) K (flat9 b R)):=rowBelow Ow2.out hb;clear r0 r1 r2 r3 r4 r5 r6 r7 r8 rL;obtain ⟨r0,r1,r2,r3,r4,r5,r6,r7,r8,rL⟩:=row9 ((Bw3.out.block wr.heap.size (by omega)).trans HX9.out);clear hb)
              | (go_at_call 69;refine (HC9.out _ (Below.trans ((Below.refl _ _).alloc (Nat.le_refl _) _) (Bw3.out.mono (by omega)))).mono ?_;rintro e w4 ⟨rfl,hb⟩;have Bw4:Hid (Below (wr.heap.size+1) (wr.alloc (.cells #[.string xn,.string xd,.int .i64 xf,.int .i64 xl,.int .i64 xs,.slice xa xk xo,.int .i64 xc,.int .i64 xi,.pointer (some ⟨b,0,none⟩)] 93)) w4):=Bw3.out.trans (hb.mono (Nat.le_trans (by simp) Bw3.out.size));have Ow4:Hid (w4.ownsRow (W.heap.size+1) 93 9 (.slice (some ⟨g,0,none⟩) K cap) K (flat9 b R)):=rowBelow Ow3.out hb;clear r0 r1 r2 r3 r4 r5 r6 r7 r8 rL;obtain ⟨r0,r1,r2,r3,r4,r5,r6,r7,r8,rL⟩:=row9 ((Bw4.out.block wr.heap.size (by omega)).trans HX9.out);clear hb)
              | (at_builtin;refine wpList_append_over _ rfl _ _ 103 rfl (W.heap.size+1) 93 i0 9 Tryz.underlying103 hi0 hz1 g k K cap (flat9 b R) rfl (Ow4.out.alloc _) ⟨w4.heap.size,0,none⟩ 1 1 (P9.cells b ⟨xn,xd,xf,xl,xs,xa,xk,xo,xc,xi⟩) rfl rfl ?c1 ?c2 (by omega) ?_))
            case c1 =>
              intro jj u hj
              rw [addr_add,Nat.zero_add]
              have hd:(w4.alloc (.cells #[.string xn,.string xd,.int .i64 xf,.int .i64 xl,.int .i64 xs,.slice xa xk xo,.int .i64 xc,.int .i64 xi,.pointer (some ⟨b,0,none⟩)] 93)).heap[w4.heap.size]?=some (.cells #[.string xn,.string xd,.int .i64 xf,.int .i64 xl,.int .i64 xs,.slice xa xk xo,.int .i64 xc,.int .i64 xi,.pointer (some ⟨b,0,none⟩)] 93 (0,0)):=halloc1 _ _
              rw [cell_of_row _ _ jj _ _ _ hd,← hj]
              simp only [P9.cells,List.getElem?_toArray]
            case c2=>intro u hu;exact flat9_one b [⟨xn,xd,xf,xl,xs,xa,xk,xo,xc,xi⟩] u (by rw [flat9_cons];exact List.mem_append_left _ hu)
            intro w8 hown hgrow
            have hGK:=hG.out.len
            have O8:Hid (w8.ownsRow (W.heap.size+1) 93 9 (.slice (some ⟨g,0,none⟩) K cap) K (flat9 b (R.take k++[(⟨xn,xd,xf,xl,xs,xa,xk,xo,xc,xi⟩:P9)]++R.drop (k+1)))):=by
              rw [Hid,flat9_app,flat9_app,← flat9_take,← flat9_drop]
              have e:flat9 b [(⟨xn,xd,xf,xl,xs,xa,xk,xo,xc,xi⟩:P9)]=P9.cells b ⟨xn,xd,xf,xl,xs,xa,xk,xo,xc,xi⟩:=by rw [flat9_cons];exact List.append_nil _
              rw [e,List.append_assoc];exact hown
            have hsz:wr.heap.size+1≤w4.heap.size:=by have:=Bw4.out.size;simpa using this
            have B8:Hid (Below (W.heap.size+1) (W.alloc (.cells #[.string an,.string ad,.int .i64 af,.int .i64 al,.int .i64 az,.slice aa ak ao,.int .i64 ac,.int .i64 ai,.pointer (some ⟨b,0,none⟩)] 93)) w8):=by
              have hb1:Below (W.heap.size+1) (W.alloc (.cells #[.string an,.string ad,.int .i64 af,.int .i64 al,.int .i64 az,.slice aa ak ao,.int .i64 ac,.int .i64 ai,.pointer (some ⟨b,0,none⟩)] 93)) (w4.alloc (.cells #[.string xn,.string xd,.int .i64 xf,.int .i64 xl,.int .i64 xs,.slice xa xk xo,.int .i64 xc,.int .i64 xi,.pointer (some ⟨b,0,none⟩)] 93)):=((hB.out.alloc hNr _).trans (Bw4.out.mono (by omega))).alloc (by omega) _
              refine hb1.grown hgrow (by simp;omega) (fun x hx=>?_)
              cases hx;exact hgN
            go_wp2
            refine ⟨⟨i+1,k+1,R.take k++[(⟨xn,xd,xf,xl,xs,xa,xk,xo,xc,xi⟩:P9)]++R.drop (k+1),rfl,by simp,by omega,by omega,HKE.out rfl,O8,B8⟩,by simp [intOf];omega⟩
    · have e:i=K:=by omega
      subst e
      have HE:Hid ((R.take k).map P9.id=gthL ps (ac,ai) I):=by
        rw [Hid,hG.out.pre,List.take_of_length_le (by rw [HK.out];exact Nat.le_refl _),ID1.out]
      have hRK:R.length=i:=hG.out.len.trans HK.out
      have hkl:(R.take k).length=k:=by rw [List.length_take];omega
      have O9:Hid (wr.ownsRow W.heap.size 93 9 (.slice (some ⟨g,0,none⟩) k cap) k (flat9 b (R.take k))):=by
        have:=row_cut hO.out hki
        rw [flat9_take] at this
        exact Go.Joins.ownsRow_le this (by omega)
      have OK9:Hid (∀ y∈R.take k,OkP ps y):=fun y hy=>hG.out.ok y (List.mem_of_mem_take hy)
      have B9:Hid (Below W.heap.size W wr):=((Below.refl _ W).alloc (Nat.le_refl _) _).trans (hB.out.mono (by omega))
      go_wp2
      refine bodyPost_ret (results_tmp rfl _ _ _) rfl ⟨R.take k,g,cap,(by rw [hkl];rfl),OK9.out,HE.out,by rw [hkl];exact O9.out,B9.out⟩
theorem row2 {w:World} {n:Nat} {t:TypeId} {a0 a1:Value} (h:w.heap[n]?=some (.cells #[a0,a1] t (0,0))):w.cell? ⟨n,0,none⟩=some a0∧w.cell? ⟨n,1,none⟩=some a1∧w.frozen? ⟨n,0,none⟩=false∧w.frozen? ⟨n,1,none⟩=false∧n<w.heap.size :=
  ⟨(cell_of_row w n 0 _ _ _ h).trans rfl,(cell_of_row w n 1 _ _ _ h).trans rfl,froz h 0,froz h 1,(Array.getElem?_eq_some_iff.1 h).1⟩
set_option maxHeartbeats 1000000 in
theorem first_no1 {b:Nat} {ps:List Plc} {W:World} (h:WAt b ps W) (hi:WI ps) (r c i:Int) (hm:methI ps c i=none):Calls Tryz.prog 22 #[.pointer (some ⟨b,0,none⟩),.int .i64 r,.agg #[.int .i64 c,.int .i64 i]] W fun e w'=>e=.returned (idE ((0,0),3))∧Below W.heap.size W w':=by
  have HR:Hid (∀ w,Below W.heap.size W w→Calls Tryz.prog 74 #[.pointer (some ⟨b,0,none⟩),.agg #[.int .i64 c,.int .i64 i]] w fun e w'=>e=.returned (.tuple #[.agg #[.string ⟨#[]⟩,.string ⟨#[]⟩,.int .i64 0,.int .i64 0,.int .i64 0,.slice none 0 0,.int .i64 0,.int .i64 0,.pointer none],.int .i64 3])∧Below w.heap.size w w'):=fun w hb=>by
    have:=read_c (h.below hb) hi c i
    rw [hm] at this
    exact this
  have HZ2:Hid (((W.alloc (.cells #[.int .i64 c,.int .i64 i] 24)).alloc (.cells #[.int .i64 0,.int .i64 0] 24)).heap[W.heap.size+1]?=some (.cells #[.int .i64 0,.int .i64 0] 24 (0,0))):=halloc2 _ _ (by simp)
  clear h hi hm
  go_enter Tryz.func22,Tryz.ntmps22
  go_wp2_with (go_at_call 74;refine (HR.out _ (by repeat (first|exact Below.refl _ _|refine Below.setCell ?_ (by simp;try omega) _|refine Below.alloc ?_ (by simp;try omega) _|refine Below.drew ?_))).mono ?_;rintro e w1 ⟨rfl,hb⟩;have Bw1:Hid (Below (W.heap.size+2) ((W.alloc (.cells #[.int .i64 c,.int .i64 i] 24)).alloc (.cells #[.int .i64 0,.int .i64 0] 24)) w1):=hb.mono (by simp);obtain ⟨z0,z1,f0,f1,zL⟩:=row2 ((Bw1.out.block (W.heap.size+1) (by omega)).trans HZ2.out);clear hb HR)
  exact bodyPost_ret (v:=idE ((0,0),3)) (by simp [results,Tryz.results22,go_sem,idE, *]) rfl ⟨rfl,(by have hbw:Below W.heap.size W w1:=(((Below.refl _ W).alloc (Nat.le_refl _) _).alloc (by simp) _).trans (Bw1.out.mono (by omega));repeat (first|refine Below.setCell ?_ (by simp;try omega) _|refine Below.alloc ?_ (by have:=hbw.size;simp;try omega) _|exact hbw))⟩
set_option maxHeartbeats 1000000 in
theorem first_no2 {b:Nat} {ps:List Plc} {W:World} (h:WAt b ps W) (hi:WI ps) (r c i:Int) (m:HM) (hm:methI ps c i=some m) (hr:plcI ps r=none):Calls Tryz.prog 22 #[.pointer (some ⟨b,0,none⟩),.int .i64 r,.agg #[.int .i64 c,.int .i64 i]] W fun e w'=>e=.returned (idE ((0,0),3))∧Below W.heap.size W w':=by
  have HR:Hid (∀ w,Below W.heap.size W w→Calls Tryz.prog 74 #[.pointer (some ⟨b,0,none⟩),.agg #[.int .i64 c,.int .i64 i]] w fun e w'=>(∃ ma mk mo,e=.returned (.tuple #[.agg #[.string m.nm,.string m.ds,.int .i64 m.fl,.int .i64 m.lo,.int .i64 m.st,.slice ma mk mo,.int .i64 c,.int .i64 i,.pointer (some ⟨b,0,none⟩)],.int .i64 0]))∧Below w.heap.size w w'):=fun w hb=>by
    have:=read_c (h.below hb) hi c i
    rw [hm] at this
    exact this
  have HZ2:Hid (((W.alloc (.cells #[.int .i64 c,.int .i64 i] 24)).alloc (.cells #[.int .i64 0,.int .i64 0] 24)).heap[W.heap.size+1]?=some (.cells #[.int .i64 0,.int .i64 0] 24 (0,0))):=halloc2 _ _ (by simp)
  have HD:Hid (∀ w,Below W.heap.size W w→Calls Tryz.prog 68 #[.pointer (some ⟨b,0,none⟩),.int .i64 r] w fun e w'=>e=.returned (.tuple #[.slice none 0 0,.int .i64 3])∧Below w.heap.size w w'):=fun w hb=>down_no (h.below hb) r hr
  clear h hi hm hr
  go_enter Tryz.func22,Tryz.ntmps22
  go_wp2_with (first
    | (go_at_call 74;refine (HR.out _ (by repeat (first|exact Below.refl _ _|refine Below.setCell ?_ (by simp;try omega) _|refine Below.alloc ?_ (by simp;try omega) _|refine Below.drew ?_))).mono ?_;rintro e w1 ⟨⟨ma,mk,mo,rfl⟩,hb⟩;have Bw1:Hid (Below (W.heap.size+2) ((W.alloc (.cells #[.int .i64 c,.int .i64 i] 24)).alloc (.cells #[.int .i64 0,.int .i64 0] 24)) w1):=hb.mono (by simp);clear hb HR)
    | (go_at_call 68;refine (HD.out _ ((((((Below.refl _ W).alloc (Nat.le_refl _) _).alloc (by simp) _).trans (Bw1.out.mono (by omega)))).alloc (by have:=Bw1.out.size;simp at this;omega) _)).mono ?_;rintro e w2 ⟨rfl,hb⟩;have Bw2:Hid (Below (W.heap.size+2) ((W.alloc (.cells #[.int .i64 c,.int .i64 i] 24)).alloc (.cells #[.int .i64 0,.int .i64 0] 24)) w2):=(Bw1.out.alloc (by have:=Bw1.out.size;simpa using this) _).trans (hb.mono (by have:=Bw1.out.size;simp at this;simp;omega));obtain ⟨z0,z1,f0,f1,zL⟩:=row2 ((Bw2.out.block (W.heap.size+1) (by omega)).trans HZ2.out);clear hb HD))
  exact bodyPost_ret (v:=idE ((0,0),3)) (by simp [results,Tryz.results22,go_sem,idE, *]) rfl ⟨rfl,(by have hbw:Below W.heap.size W w2:=(((Below.refl _ W).alloc (Nat.le_refl _) _).alloc (by simp) _).trans (Bw2.out.mono (by omega));repeat (first|refine Below.setCell ?_ (by simp;try omega) _|refine Below.alloc ?_ (by have:=hbw.size;simp;try omega) _|exact hbw))⟩
theorem firI_eq {ps:List Plc} {r:Int} {a:Int×Int} {m:HM} {k:Nat} {q:Plc} (hm:methI ps a.1 a.2=some m) (hk:r=(k:Int)) (hq:ps[k]?=some q):firI ps r a=lstI (chL (ps.map nd) k) (gthL ps a (askL ps m a (chL (ps.map nd) k).reverse)):=by
  subst hk
  rw [firI,hm,plcI_nat,hq]
  rfl
theorem con_cast (l:List Nat) (k:Nat):(l.map (fun k:Nat=>(k:Int))).contains (k:Int)=l.reverse.contains k:=by
  rw [Bool.eq_iff_iff]
  simp only [List.contains_iff_mem,List.mem_map,List.mem_reverse]
  exact ⟨fun ⟨a, h, e⟩ => by have : a = k := by omega
                             subst this;exact h,fun h=>⟨k,h,rfl⟩⟩
set_option maxHeartbeats 4000000 in
theorem first_yes {b:Nat} {ps:List Plc} {W:World} (h:WAt b ps W) (hi:WI ps) (k:Nat) (q:Plc) (hq:ps[k]?=some q) (c i:Int) (m:HM) (hm:methI ps c i=some m):Calls Tryz.prog 22 #[.pointer (some ⟨b,0,none⟩),.int .i64 (k:Int),.agg #[.int .i64 c,.int .i64 i]] W fun e w'=>e=.returned (idE (firI ps (k:Int) (c,i)))∧Below W.heap.size W w':=by
  have HR:Hid (∀ w,Below W.heap.size W w→Calls Tryz.prog 74 #[.pointer (some ⟨b,0,none⟩),.agg #[.int .i64 c,.int .i64 i]] w fun e w'=>(∃ ma mk mo,e=.returned (.tuple #[.agg #[.string m.nm,.string m.ds,.int .i64 m.fl,.int .i64 m.lo,.int .i64 m.st,.slice ma mk mo,.int .i64 c,.int .i64 i,.pointer (some ⟨b,0,none⟩)],.int .i64 0]))∧Below w.heap.size w w'):=fun w hb=>by
    have:=read_c (h.below hb) hi c i
    rw [hm] at this
    exact this
  have HZ2:Hid (((W.alloc (.cells #[.int .i64 c,.int .i64 i] 24)).alloc (.cells #[.int .i64 0,.int .i64 0] 24)).heap[W.heap.size+1]?=some (.cells #[.int .i64 0,.int .i64 0] 24 (0,0))):=halloc2 _ _ (by simp)
  have hKb:(chL (ps.map nd) k).length≤300:=by
    have h1:=ch_len hi.wo k (by simpa using (List.getElem?_eq_some_iff.1 hq).1)
    have h2:=hi.hi
    have h3:=(List.getElem?_eq_some_iff.1 hq).1
    omega
  have HD:Hid (∀ w,Below W.heap.size W w→Calls Tryz.prog 68 #[.pointer (some ⟨b,0,none⟩),.int .i64 (k:Int)] w fun e w'=>∃ g cap,e=.returned (.tuple #[.slice (some ⟨g,0,none⟩) (chL (ps.map nd) k).length cap,.int .i64 0])∧w'.ownsRow w.heap.size 3 1 (.slice (some ⟨g,0,none⟩) (chL (ps.map nd) k).length cap) (chL (ps.map nd) k).length ((chL (ps.map nd) k).reverse.map numV)∧Below w.heap.size w w'):=fun w hb=>down_c (h.below hb) hi k q hq
  obtain ⟨G,hG⟩:∃ G,gthL ps (c,i) (askL ps m (c,i) (chL (ps.map nd) k).reverse)=G:=⟨_,rfl⟩
  rw [firI_eq (a:=(c,i)) hm rfl hq,hG]
  obtain ⟨R,hR⟩:∃ R,lstI (chL (ps.map nd) k) G=R:=⟨_,rfl⟩
  have HRR:Hid (lstI (chL (ps.map nd) k) G=R):=hR
  rw [hR]
  have hU:Below W.heap.size W ((W.alloc (.cells #[.int .i64 c,.int .i64 i] 24)).alloc (.cells #[.int .i64 0,.int .i64 0] 24)):=((Below.refl _ W).alloc (Nat.le_refl _) _).alloc (by simp) _
  have HG:Hid (∀ w (x:P9) (v:Value),Below (W.heap.size+2) ((W.alloc (.cells #[.int .i64 c,.int .i64 i] 24)).alloc (.cells #[.int .i64 0,.int .i64 0] 24)) w→OkP ps x→x.id=(c,i)→(x.nm,x.ds,x.c)=(m.nm,m.ds,c)→Rds w v (chL (ps.map nd) k).length 1 ((chL (ps.map nd) k).reverse.map numV)→Calls Tryz.prog 70 #[x.agg b,v] w fun e w'=>∃ (L:List P9) (g cap:Nat),e=.returned (.slice (some ⟨g,0,none⟩) L.length cap)∧(∀ y∈L,OkP ps y)∧L.map P9.id=G∧w'.ownsRow w.heap.size 93 9 (.slice (some ⟨g,0,none⟩) L.length cap) L.length (flat9 b L)∧Below w.heap.size w w'):=fun w x v hb ho hid hnd hv=>by
    have:=gth_c (h.below (hU.trans (hb.mono (by omega)))) hi x ho v (chL (ps.map nd) k).reverse (by rw [List.length_reverse];exact hv) (by rw [List.length_reverse];exact hKb)
    simp only [Prod.mk.injEq] at hnd
    rw [hid,hnd.1,hnd.2.1,hnd.2.2] at this
    rw [askL] at hG
    rw [hG] at this
    exact this
  have HN:Hid (∀ (w:World) (v:Value) (p:Nat),Rds w v (chL (ps.map nd) k).length 1 ((chL (ps.map nd) k).reverse.map numV)→Calls Tryz.prog 75 #[v,.int .i64 (p:Int)] w fun e w'=>e=.returned (.bool ((chL (ps.map nd) k).reverse.contains p))∧Below w.heap.size w w'):=fun w v p hv=>nContains_any v (chL (ps.map nd) k).reverse p w (by rw [List.length_reverse];exact hv) (by rw [List.length_reverse];omega)
  have HM:Hid (methI ps c i=some m):=hm
  have hGb:G.length≤301:=by
    rw [← hG]
    refine Nat.le_trans (gthL_len _ _ _) ?_
    have:=nskL_len ps m.nm m.ds (c,i).1 (chL (ps.map nd) k).reverse
    rw [List.length_reverse] at this
    rw [askL,List.length_cons]
    omega
  generalize chL (ps.map nd) k=l at *
  obtain ⟨K,hK⟩:∃ K,l.length=K:=⟨_,rfl⟩
  rw [hK] at HD HG HN hKb
  clear h hi hm hq hG hU hK hR
  simp only [P9.agg] at HG
  go_enter Tryz.func22,Tryz.ntmps22
  go_upto_region 8 with (first
    | (go_at_call 74;refine (HR.out _ (by repeat (first|exact Below.refl _ _|refine Below.setCell ?_ (by simp;try omega) _|refine Below.alloc ?_ (by simp;try omega) _|refine Below.drew ?_))).mono ?_;rintro e w1 ⟨⟨ma,mk,mo,rfl⟩,hb⟩;have Bw1:Hid (Below (W.heap.size+2) ((W.alloc (.cells #[.int .i64 c,.int .i64 i] 24)).alloc (.cells #[.int .i64 0,.int .i64 0] 24)) w1):=hb.mono (by simp);clear hb HR)
    | (go_at_call 68;refine (HD.out _ ((((((Below.refl _ W).alloc (Nat.le_refl _) _).alloc (by simp) _).trans (Bw1.out.mono (by omega)))).alloc (by have:=Bw1.out.size;simp at this;omega) _)).mono ?_;rintro e w2 ⟨dg,dc,rfl,ho,hb⟩;have Bw2:Hid (Below (W.heap.size+2) ((W.alloc (.cells #[.int .i64 c,.int .i64 i] 24)).alloc (.cells #[.int .i64 0,.int .i64 0] 24)) w2):=(Bw1.out.alloc (by have:=Bw1.out.size;simpa using this) _).trans (hb.mono (by have:=Bw1.out.size;simp at this;simp;omega));have D2:Hid (Rds w2 (.slice (some ⟨dg,0,none⟩) K dc) K 1 (l.reverse.map numV)):=own_rds ho;obtain ⟨p0,p1,p2,p3,p4,p5,p6,p7,p8,pL⟩:=row9 ((hb.block w1.heap.size (by simp)).trans (halloc1 w1 (.cells #[.string m.nm,.string m.ds,.int .i64 m.fl,.int .i64 m.lo,.int .i64 m.st,.slice ma mk mo,.int .i64 c,.int .i64 i,.pointer (some ⟨b,0,none⟩)] 93)));clear hb ho HD)
    | (go_at_call 70;refine (HG.out w2 ⟨m.nm,m.ds,m.fl,m.lo,m.st,ma,mk,mo,c,i⟩ (.slice (some ⟨dg,0,none⟩) K dc) Bw2.out ⟨m,HM.out,rfl,rfl,rfl⟩ rfl rfl D2.out).mono ?_;rintro e w3 ⟨L,g,cap,rfl,hok,hid,ho,hb⟩;have OK3:Hid (∀ y∈L,OkP ps y):=hok;have ID3:Hid (L.map P9.id=G):=hid;have O3:Hid (w3.ownsRow w2.heap.size 93 9 (.slice (some ⟨g,0,none⟩) L.length cap) L.length (flat9 b L)):=ho;have Bw3:Hid (Below (W.heap.size+2) ((W.alloc (.cells #[.int .i64 c,.int .i64 i] 24)).alloc (.cells #[.int .i64 0,.int .i64 0] 24)) w3):=Bw2.out.trans (hb.mono (Nat.le_trans (by simp) Bw2.out.size));have D3:Hid (Rds w3 (.slice (some ⟨dg,0,none⟩) K dc) K 1 (l.reverse.map numV)):=D2.out.keep hb;obtain ⟨z0,z1,f0,f1,zL⟩:=row2 ((Bw3.out.block (W.heap.size+1) (by omega)).trans HZ2.out);clear hb ho hok hid HG))
  rcases List.eq_nil_or_concat L with hL|⟨L0,y,hL⟩
  · subst hL
    have hG0:G=[]:=ID3.out.symm
    subst hG0
    have eR:R=((0,0),6):=HRR.out.symm
    subst eR
    clear HRR OK3 ID3 O3
    go_wp2
    exact bodyPost_ret (v:=idE ((0,0),6)) (by simp [results,Tryz.results22,go_sem,idE, *]) rfl ⟨rfl,(by have hbw:Below W.heap.size W w3:=(((Below.refl _ W).alloc (Nat.le_refl _) _).alloc (by simp) _).trans (Bw3.out.mono (by omega));repeat (first|refine Below.setCell ?_ (by simp;try omega) _|refine Below.alloc ?_ (by have:=hbw.size;simp;try omega) _|exact hbw))⟩
  · subst hL
    have hlast:(L0.concat y)[L0.length]?=some y:=by simp
    have hyo:=OK3.out y (by simp)
    obtain ⟨e0,e1,e2,e3,e4,e5,e6,e7,e8,gL⟩:=row9_cells O3.out hlast
    have hGl:G.getLast?=some y.id:=by rw [← ID3.out,List.concat_eq_append,List.map_append];simp
    have HGl:Hid (G.getLast?=some y.id):=hGl
    have hlen:(L0.concat y).length=L0.length+1:=by simp
    obtain ⟨p,hp⟩:∃ p:Nat,y.c=(p:Int):=by
      obtain ⟨m2,hm2,_⟩:=hyo
      rcases plcI_cases ps y.c with ⟨h1,_⟩|⟨p,_,e,_⟩
      · rw [methI,h1] at hm2;cases hm2
      · exact ⟨p,e⟩
    have HN2:Hid (∀ w,Below w3.heap.size w3 w→Calls Tryz.prog 75 #[.slice (some ⟨dg,0,none⟩) K dc,.int .i64 (p:Int)] w fun e w'=>e=.returned (.bool (l.reverse.contains p))∧Below w.heap.size w w'):=fun w hb=>HN.out w _ p (D3.out.keep hb)
    obtain ⟨yn,yd,yf,yl,ys,ya,yk,yo,yc,yi⟩:=y
    simp only at hp
    subst hp
    have HCC:Hid ((l.map (fun k:Nat=>(k:Int))).contains (p:Int)=l.reverse.contains p):=con_cast l p
    have HRC:Hid (R=if l.reverse.contains p then (((p:Int),yi),0) else ((0,0),6)):=by rw [Hid,← HRR.out,lstI_last HGl.out,P9.id,HCC.out]
    clear HCC HRR
    generalize l.reverse.contains p=B at *
    rw [hlen] at O3 ⊢
    obtain ⟨n,hn⟩:∃ n,L0.length=n:=⟨_,rfl⟩
    have hnb:n≤1000000:=by
      have e:=congrArg List.length ID3.out
      simp at e
      omega
    rw [hn] at O3 e0 e1 e2 e3 e4 e5 e6 e7 e8 ⊢
    clear hlen hlast hyo hGl HGl hn OK3 ID3 HN
    cases B
    all_goals
      have eR:=HRC.out
      simp only [Bool.false_eq_true,if_false,if_true] at eR
      subst eR
      clear HRC
      go_wp2_with (go_at_call 75;refine (HN2.out _ ((Below.refl _ _).alloc (Nat.le_refl _) _)).mono ?_;rintro e w4 ⟨rfl,hb⟩;clear z0 z1 f0 f1 zL;have Bw4:Hid (Below (W.heap.size+2) ((W.alloc (.cells #[.int .i64 c,.int .i64 i] 24)).alloc (.cells #[.int .i64 0,.int .i64 0] 24)) w4):=(Bw3.out.alloc (by have:=Bw3.out.size;simpa using this) _).trans (hb.mono (by have:=Bw3.out.size;simp at this;simp;omega));obtain ⟨z0,z1,f0,f1,zL⟩:=row2 ((Bw4.out.block (W.heap.size+1) (by omega)).trans HZ2.out);obtain ⟨u0,u1,_,_,uL⟩:=row2 ((hb.block w3.heap.size (by simp)).trans (halloc1 w3 (.cells #[.int .i64 (p:Int),.int .i64 yi] 24)));clear hb HN2)
    · exact bodyPost_ret (v:=idE ((0,0),6)) (by simp [results,Tryz.results22,go_sem,idE, *]) rfl ⟨rfl,(by have hbw:Below W.heap.size W w4:=(((Below.refl _ W).alloc (Nat.le_refl _) _).alloc (by simp) _).trans (Bw4.out.mono (by omega));repeat (first|refine Below.setCell ?_ (by simp;try omega) _|refine Below.alloc ?_ (by have:=hbw.size;simp;try omega) _|exact hbw))⟩
    · exact bodyPost_ret (v:=idE (((p:Int),yi),0)) (by simp [results,Tryz.results22,go_sem,idE, *]) rfl ⟨rfl,(by have hbw:Below W.heap.size W w4:=(((Below.refl _ W).alloc (Nat.le_refl _) _).alloc (by simp) _).trans (Bw4.out.mono (by omega));repeat (first|refine Below.setCell ?_ (by simp;try omega) _|refine Below.alloc ?_ (by have:=hbw.size;simp;try omega) _|exact hbw))⟩
theorem first_c {b:Nat} {ps:List Plc} {W:World} (h:WAt b ps W) (hi:WI ps) (r c i:Int):Calls Tryz.prog 22 #[.pointer (some ⟨b,0,none⟩),.int .i64 r,.agg #[.int .i64 c,.int .i64 i]] W fun e w'=>e=.returned (idE (firI ps r (c,i)))∧Below W.heap.size W w':=by
  cases hm:methI ps c i with
  | none =>
    have e:firI ps r (c,i)=((0,0),3):=by simp only [firI,hm]
    rw [e];exact first_no1 h hi r c i hm
  | some m =>
    rcases plcI_cases ps r with ⟨h1,_⟩|⟨k,q,rfl,h2,h1⟩
    · have e:firI ps r (c,i)=((0,0),3):=by simp only [firI,hm,h1]
      rw [e];exact first_no2 h hi r c i m hm h1
    · exact first_yes h hi k q h2 c i m hm
theorem kp2 {V w:World} {N n:Nat} {t:TypeId} {a0 a1:Value} (hb:Below N V w) (hn:n<N) (h:V.heap[n]?=some (.cells #[a0,a1] t (0,0))):Hid (w.heap[n]?=some (.cells #[a0,a1] t (0,0)))∧w.cell? ⟨n,0,none⟩=some a0∧w.cell? ⟨n,1,none⟩=some a1∧(∀ k,w.frozen? ⟨n,k,none⟩=false)∧n<w.heap.size∧¬ n=w.heap.size:=by
  have h2:=(hb.block n hn).trans h
  obtain ⟨c0,c1,f,l⟩:=rw2 h2
  exact ⟨h2,c0,c1,f,l,by omega⟩
theorem kp6 {V w:World} {N n:Nat} {t:TypeId} {a0 a1 a2 a3 a4 a5:Value} (hb:Below N V w) (hn:n<N) (h:V.heap[n]?=some (.cells #[a0,a1,a2,a3,a4,a5] t (0,0))):Hid (w.heap[n]?=some (.cells #[a0,a1,a2,a3,a4,a5] t (0,0)))∧w.cell? ⟨n,0,none⟩=some a0∧w.cell? ⟨n,1,none⟩=some a1∧w.cell? ⟨n,2,none⟩=some a2∧w.cell? ⟨n,3,none⟩=some a3∧w.cell? ⟨n,4,none⟩=some a4∧w.cell? ⟨n,5,none⟩=some a5∧(∀ k,w.frozen? ⟨n,k,none⟩=false)∧n<w.heap.size∧¬ n=w.heap.size:=by
  have h2:=(hb.block n hn).trans h
  obtain ⟨c0,c1,c2,c3,c4,c5,f,l⟩:=rw6 h2
  exact ⟨h2,c0,c1,c2,c3,c4,c5,f,l,by omega⟩
variable {ps:List Plc} {p:Plc}
theorem mths_eachp {iface:Bool} {all:List Mth}:∀ {l:List Mth} {k:Nat},mthsB iface all l k=true→∀ m∈l,mthB m iface=true
  | [],_,_,m,hm=>by cases hm
  | x::r,k,h,m,hm=>by
    rw [mthsB,Bool.and_eq_true,Bool.and_eq_true] at h
    rcases List.mem_cons.1 hm with rfl|hm
    · exact h.1.1
    · exact mths_eachp h.2 m hm
theorem priv_open {f:Int} {i n:Bool} (h:chkM f i n=0) (h2:hasI f 2=true):openI f=2∧hasI f 1024=false:=by
  have hv:¬ 1<visN f:=by
    intro hv
    rw [chkM] at h
    simp [hv] at h
  have ha:hasI f 1024=false:=by
    cases e:hasI f 1024 with
    | false=>rfl
    | true =>
      rw [chkM] at h
      simp [e,h2] at h
  refine ⟨?_,ha⟩
  unfold visN at hv
  unfold openI
  cases e1:hasI f 1 <;> cases e4:hasI f 4 <;> simp [e1,e4,h2] at hv ⊢
def UnqM (ps:List Plc):Prop:=∀ q∈ps,∀ (i:Nat) (m:HM),q.c.ms[i]?=some m→findH m.nm m.ds q.c.ms 0=(i:Int)
theorem find_map (nm ds:ByteArray):∀ (l:List Mth) (k:Nat),findH nm ds (l.map hmOf) k=findM nm ds l k
  | [],_=>rfl
  | m::r,k=>by
    rw [List.map_cons,findH,findM,find_map nm ds r (k+1)]
    rfl
theorem mths_find {iface:Bool} {all:List Mth}:∀ {l:List Mth} {k:Nat},mthsB iface all l k=true→∀ (i:Nat) (m:Mth),l[i]?=some m→findM m.nm m.ds all 0=((k+i:Nat):Int)
  | [],_,_,_,_,hm=>by simp at hm
  | x::r,k,h,i,m,hm=>by
    rw [mthsB,Bool.and_eq_true,Bool.and_eq_true,beq_iff_eq] at h
    cases i with
    | zero =>
      simp only [List.getElem?_cons_zero,Option.some.injEq] at hm
      subst hm
      exact h.1.2
    | succ i =>
      rw [List.getElem?_cons_succ] at hm
      have:=mths_find h.2 i m hm
      rw [this];congr 1;omega
theorem unqObj:(objMs.zipIdx.all fun p=>findH p.1.nm p.1.ds objMs 0 == (p.2:Int))=true:=by kernel_rfl
theorem unqM3:UnqM P3:=by
  intro q hq i m hm
  simp only [P3,List.mem_cons,List.not_mem_nil,or_false] at hq
  rcases hq with rfl|rfl|rfl
  · have:=List.all_eq_true.1 unqObj (m,i) (List.mem_zipIdx_iff_getElem?.2 hm)
    exact beq_iff_eq.1 this
  · simp [cloH] at hm
  · simp [serH] at hm
theorem unqM_wld (l:List Cls) (hl:∀ c∈l,ClsW c):UnqM (wld l):=by
  refine wld_ind unqM3 (fun ps c h _=>?_) l hl
  cases hd:defN ps c with
  | error e=>exact h
  | ok p =>
    obtain ⟨hB,_,_,s,l,_,_,rfl⟩:=def_ok hd
    intro q hq i m hm
    rcases List.mem_append.1 (show q∈ps++[_] from hq) with hq|hq
    · exact h q hq i m hm
    · rw [List.mem_singleton] at hq
      subst hq
      have hm2:(c.ms.map hmOf)[i]?=some m:=hm
      rw [List.getElem?_map] at hm2
      obtain ⟨m0,hm0,rfl⟩:=Option.map_eq_some_iff.1 hm2
      rw [clsB,Bool.and_eq_true] at hB
      have:=mths_find hB.2 i m0 hm0
      show findH m0.nm m0.ds (c.ms.map hmOf) 0=(i:Int)
      rw [find_map,this,Nat.zero_add]
theorem find_congr {nm ds nm2 ds2:ByteArray} (h1:nm.toList=nm2.toList) (h2:ds.toList=ds2.toList):∀ (l:List HM) (k:Nat),findH nm ds l k=findH nm2 ds2 l k
  | [],_=>rfl
  | m::r,k=>by rw [findH,findH,h1,h2,find_congr h1 h2 r (k+1)]
theorem UnqM.fnd {ps:List Plc} (h:UnqM ps) {c i:Int} {m:HM} (hm:methI ps c i=some m) {nm ds:ByteArray} (h1:m.nm.toList=nm.toList) (h2:m.ds.toList=ds.toList):fndI ps c nm ds=(i,0):=by
  obtain ⟨k,q,rfl,hq,hp,hm2⟩:=meth_plc hm
  rw [methP] at hm2
  split at hm2
  · rename_i hi
    have:=h q (List.mem_of_getElem? hq) i.toNat m hm2
    have e:findH nm ds q.c.ms 0=i:=by rw [← find_congr h1 h2,this];omega
    rw [fndI,hp]
    simp only [e]
    rw [if_neg (by omega)]
  · cases hm2
theorem extI_split {ps:List Plc} {a b:Int} (h:extI ps a b=true):∃ i j:Nat,a=(i:Int)∧b=(j:Int)∧i<ps.length∧j<ps.length∧extB (ps.map nd) i j=true:=by
  rw [extI,Bool.and_eq_true,Bool.and_eq_true] at h
  obtain ⟨⟨h1,h2⟩,h3⟩:=h
  rcases plcI_cases ps a with ⟨e,_⟩|⟨i,q,rfl,hq,_⟩
  · rw [e] at h1;cases h1
  · rcases plcI_cases ps b with ⟨e,_⟩|⟨j,r,rfl,hr,_⟩
    · rw [e] at h2;cases h2
    · exact ⟨i,j,rfl,rfl,(List.getElem?_eq_some_iff.1 hq).1,(List.getElem?_eq_some_iff.1 hr).1,h3⟩
theorem extI_tr {ps:List Plc} (hW:WI ps) {a b c:Int} (h1:extI ps a b=true) (h2:extI ps b c=true):extI ps a c=true:=by
  obtain ⟨i,j,rfl,rfl,hi,hj,e1⟩:=extI_split h1
  obtain ⟨j2,k,hjj,rfl,_,hk,e2⟩:=extI_split h2
  obtain rfl:j=j2:=by omega
  rw [extI_nat hi hk]
  exact ext_trans hW.wo (by simpa using hi) e1 e2
theorem extI_le {ps:List Plc} (hW:WI ps) {a b:Int} (h1:extI ps a b=true):b≤a:=by
  obtain ⟨i,j,rfl,rfl,hi,hj,e1⟩:=extI_split h1
  have:=ext_le hW.wo (by simpa using hi) e1
  omega
theorem extI_refl {ps:List Plc} {c i:Int} {m:HM} (h:methI ps c i=some m):extI ps c c=true:=by
  obtain ⟨k,q,rfl,hq,_,_⟩:=meth_plc h
  have:=(List.getElem?_eq_some_iff.1 hq).1
  rw [extI_nat this this]
  exact ext_self _ _
theorem pl_facts {ps:List Plc} {x y:Int×Int} (h:plI ps x y=true):∃ mx my,methI ps x.1 x.2=some mx∧methI ps y.1 y.2=some my∧mx.nm.toList=my.nm.toList∧mx.ds.toList=my.ds.toList∧stB mx.fl=false∧stB my.fl=false∧x.1≠y.1∧ifcI ps x.1=false∧extI ps x.1 y.1=true:=by
  rw [plI] at h
  cases hx:methI ps x.1 x.2 with
  | none=>rw [hx] at h;cases h
  | some mx =>
    cases hy:methI ps y.1 y.2 with
    | none=>rw [hx,hy] at h;cases h
    | some my =>
      rw [hx,hy] at h
      simp only [plnB,freB,bloB,Bool.and_eq_true,Bool.not_eq_true',beq_iff_eq,beq_eq_false_iff_ne] at h
      obtain ⟨⟨⟨⟨⟨⟨h1,h2⟩,h3⟩,h4⟩,h5⟩,_⟩,_⟩:=h
      exact ⟨mx,my,rfl,rfl,h3,h4,h1.1,h2.1,h5.1.1,h5.1.2,h5.2⟩
def OvN (ps:List Plc) (a:Int×Int):Nat→Int×Int→Prop
  | 0,x=>x=a∧stI ps a=false
  | n+1,x=>∃ y,OvN ps a n y∧plI ps x y=true
def Ov (ps:List Plc) (a x:Int×Int):Prop:=∃ n,OvN ps a n x
theorem Ov.step {ps:List Plc} {a x y:Int×Int} (h:Ov ps a y) (hp:plI ps x y=true):Ov ps a x:=by
  obtain ⟨n,hn⟩:=h
  exact ⟨n+1,y,hn,hp⟩
theorem ovN_facts {ps:List Plc} (hW:WI ps) {a:Int×Int} {ma:HM} (ha:methI ps a.1 a.2=some ma):∀ (n:Nat) (x:Int×Int),OvN ps a n x→∃ mx,methI ps x.1 x.2=some mx∧mx.nm.toList=ma.nm.toList∧mx.ds.toList=ma.ds.toList∧stB mx.fl=false∧extI ps x.1 a.1=true∧(x=a∨(ifcI ps x.1=false∧a.1<x.1))
  | 0,x,h=>by
    obtain ⟨rfl,hs⟩:=h
    refine ⟨ma,ha,rfl,rfl,?_,extI_refl ha,.inl rfl⟩
    rw [stI,ha] at hs
    exact hs
  | n+1,x,h=>by
    obtain ⟨y,hy,hp⟩:=h
    obtain ⟨my,hmy,e1,e2,_,e4,e5⟩:=ovN_facts hW ha n y hy
    obtain ⟨mx,my2,hmx,hmy2,f1,f2,f3,_,f5,f6,f7⟩:=pl_facts hp
    rw [hmy] at hmy2
    cases hmy2
    have hle:=extI_le hW f7
    have hle2:=extI_le hW e4
    exact ⟨mx,hmx,f1.trans e1,f2.trans e2,f3,extI_tr hW f7 e4,.inr ⟨f6,by omega⟩⟩
theorem gth_ov {ps:List Plc} {a:Int×Int}:∀ (l k:List (Int×Int)),(∀ y∈k,Ov ps a y)→∀ x∈l.foldl (gth1 ps a) k,Ov ps a x
  | [],_,hk,x,hx=>hk x hx
  | c::r,k,hk,x,hx=>by
    rw [List.foldl_cons] at hx
    refine gth_ov r _ (fun y hy=>?_) x hx
    rw [gth1] at hy
    split at hy
    · rename_i hc
      rcases List.mem_append.1 hy with hy|hy
      · exact hk y hy
      · rw [List.mem_singleton] at hy
        subst hy
        rw [Bool.or_eq_true] at hc
        rcases hc with hc|hc
        · rw [Bool.and_eq_true,eqI_iff] at hc
          obtain ⟨rfl,hs⟩:=hc
          exact ⟨0,rfl,by simpa using hs⟩
        · obtain ⟨z,hz,hp⟩:=List.any_eq_true.1 hc
          exact (hk z hz).step hp
    · exact hk y hy
theorem ch_desc {ns:List Nd} (h:WO ns) (a:Nat) (ha:a<ns.length):(chL ns a).Pairwise (· > ·):=by
  refine ch_ind h (P:=fun k=>(chL ns k).Pairwise (· > ·)) ?_ (fun k hk h0 hlt ih=>?_) a ha
  · rw [chL_zero];exact List.pairwise_singleton _ _
  · rw [chL_cons h hk h0]
    refine List.pairwise_cons.2 ⟨fun b hb=>?_,ih⟩
    have:=ch_le h _ (by omega) b hb
    omega
theorem nsk_mem {ps:List Plc} {nm ds:ByteArray} {a:Int}:∀ {l:List Nat} {c:Nat},c∈l→(fndI ps (c:Int) nm ds).2=0→(c:Int)≠a→((c:Int),(fndI ps (c:Int) nm ds).1)∈nskL ps nm ds a l
  | [],_,h,_,_=>by cases h
  | d::r,c,h,h1,h2=>by
    rw [nskL]
    rcases List.mem_cons.1 h with rfl|h
    · rw [if_pos ⟨h1,h2⟩];exact List.mem_cons_self
    · split
      · exact List.mem_cons_of_mem _ (nsk_mem h h1 h2)
      · exact nsk_mem h h1 h2
theorem take_lt {l:List Nat} (hl:l.Pairwise (· < ·)) {n d x:Nat} (hd:l[n]?=some d) (hx:x∈l) (hlt:x<d):x∈l.take n:=by
  obtain ⟨i,hi,rfl⟩:=List.getElem_of_mem hx
  obtain ⟨hn,rfl⟩:=List.getElem?_eq_some_iff.1 hd
  have hin:i<n:=by
    rcases Nat.lt_trichotomy i n with h|h|h
    · exact h
    · subst h;omega
    · have:=List.pairwise_iff_getElem.1 hl n i hn hi h;omega
  exact List.mem_take_iff_getElem.2 ⟨i,by omega,rfl⟩
theorem gth_all {ps:List Plc} (hW:WI ps) (hU:UnqM ps) {a:Int×Int} {ma:HM} (ha:methI ps a.1 a.2=some ma) {ck:Nat} (hck:ck<ps.length):∀ n:Nat,∀ x∈askL ps ma a ((chL (ps.map nd) ck).reverse.take n),Ov ps a x→x∈gthL ps a (askL ps ma a ((chL (ps.map nd) ck).reverse.take n)):=by
  have hckl:ck<(ps.map nd).length:=by simpa using hck
  have hasc:(chL (ps.map nd) ck).reverse.Pairwise (· < ·):=by
    rw [List.pairwise_reverse]
    exact ch_desc hW.wo ck hckl
  intro n
  induction n with
  | zero =>
    intro x hx ho
    rw [List.take_zero,askL,nskL,List.mem_singleton] at hx
    subst hx
    obtain ⟨n,hn⟩:=ho
    obtain ⟨mx,hmx,_,_,hs,_⟩:=ovN_facts hW ha n _ hn
    have hst:stI ps x=false:=by rw [stI,hmx];exact hs
    rw [List.take_zero,askL,nskL,gthL,List.foldl_cons,List.foldl_nil,gth1,hst,eqI_iff.2 rfl]
    exact List.mem_singleton.2 rfl
  | succ n ih =>
    intro x hx ho
    by_cases hn:n<(chL (ps.map nd) ck).reverse.length
    · obtain ⟨d,hd⟩:∃ d,(chL (ps.map nd) ck).reverse[n]?=some d:=⟨_,List.getElem?_eq_getElem hn⟩
      have hst:=nskL_take (ps:=ps) (nm:=ma.nm) (ds:=ma.ds) (a:=a.1) hd
      have hask:askL ps ma a ((chL (ps.map nd) ck).reverse.take (n+1))=askL ps ma a ((chL (ps.map nd) ck).reverse.take n)++(if (fndI ps (d:Int) ma.nm ma.ds).2=0∧(d:Int)≠a.1 then [((d:Int),(fndI ps (d:Int) ma.nm ma.ds).1)] else []):=by rw [askL,hst,askL,List.cons_append]
      rw [hask] at hx ⊢
      by_cases hc:(fndI ps (d:Int) ma.nm ma.ds).2=0∧(d:Int)≠a.1
      · rw [if_pos hc] at hx ⊢
        rw [gthL_snoc,gth1]
        rcases List.mem_append.1 hx with hx|hx
        · have:=ih x hx ho
          split
          · exact List.mem_append_left _ this
          · exact this
        · rw [List.mem_singleton] at hx
          subst hx
          obtain ⟨k,hk⟩:=ho
          cases k with
          | zero=>exact absurd (congrArg Prod.fst hk.1) hc.2
          | succ k =>
            obtain ⟨y,hy,hp⟩:=hk
            have hyk:y∈gthL ps a (askL ps ma a ((chL (ps.map nd) ck).reverse.take n)):=by
              refine ih y ?_ ⟨k,hy⟩
              obtain ⟨my,hmy,e1,e2,_,_,e5⟩:=ovN_facts hW ha k y hy
              rcases e5 with rfl|⟨hif,hlt⟩
              · rw [askL];exact List.mem_cons_self
              · obtain ⟨_,_,_,_,_,_,_,_,hne,_,hex⟩:=pl_facts hp
                obtain ⟨i,j,hi,hj,hil,hjl,he⟩:=extI_split hex
                obtain rfl:d=i:=by simp only at hi;omega
                have hdc:d∈chL (ps.map nd) ck:=List.mem_reverse.1 (List.mem_of_getElem? hd)
                have hjd:j∈chL (ps.map nd) d:=by
                  rcases (ext_iff _ _ _).1 he with h|h
                  · exact h
                  · exfalso
                    obtain ⟨_,_,p,hp1,hp2,_⟩:=cl_facts hW.wo h
                    rw [hj,ifcI,plcI_nat] at hif
                    rw [List.getElem?_map] at hp1
                    obtain ⟨q,hq,rfl⟩:=Option.map_eq_some_iff.1 hp1
                    rw [hq] at hif
                    have:(nd q).i=false:=hif
                    rw [this] at hp2
                    cases hp2
                have hjc:j∈chL (ps.map nd) ck:=ch_trans hW.wo ck hckl d hdc j hjd
                have hjlt:j<d:=by
                  have h1:=ch_le hW.wo d (by have:=ch_le hW.wo ck hckl d hdc;omega) j hjd
                  have h2:j≠d:=fun e=>hne (by rw [hj,e])
                  omega
                have hf:=hU.fnd hmy e1 e2
                have hyy:y=((j:Int),(fndI ps (j:Int) ma.nm ma.ds).1):=by
                  rw [hj] at hf
                  rw [hf]
                  exact Prod.ext hj rfl
                rw [askL,hyy]
                refine List.mem_cons_of_mem _ (nsk_mem (take_lt hasc hd (List.mem_reverse.2 hjc) hjlt) ?_ (by omega))
                rw [hj] at hf
                rw [hf]
            rw [if_pos (by rw [Bool.or_eq_true];exact .inr (List.any_eq_true.2 ⟨y,hyk,hp⟩))]
            exact List.mem_append_right _ (List.mem_singleton.2 rfl)
      · rw [if_neg hc,List.append_nil] at hx ⊢
        exact ih x hx ho
    · have e1:(chL (ps.map nd) ck).reverse.take (n+1)=(chL (ps.map nd) ck).reverse.take n:=by rw [List.take_of_length_le (by omega),List.take_of_length_le (by omega)]
      rw [e1] at hx ⊢
      exact ih x hx ho
theorem ovr_iff {ps:List Plc} (hW:WI ps) (hU:UnqM ps) {a c:Int×Int} {ma mc:HM} (ha:methI ps a.1 a.2=some ma) (hc:methI ps c.1 c.2=some mc):(ovrI ps c a).2=0∧((ovrI ps c a).1=true↔Ov ps a c):=by
  obtain ⟨ck,q,hck,hq,_,_⟩:=meth_plc hc
  have hlt:=(List.getElem?_eq_some_iff.1 hq).1
  have e:ovrI ps c a=((gthL ps a (askL ps ma a (chL (ps.map nd) ck).reverse)).any (eqI c),0):=by
    rw [ovrI,hc,ha]
    simp only [hck,Int.toNat_natCast]
  rw [e]
  refine ⟨rfl,?_⟩
  constructor
  · intro h
    obtain ⟨x,hx,he⟩:=List.any_eq_true.1 h
    rw [eqI_iff] at he
    subst he
    exact gth_ov _ [] (fun y hy=>by cases hy) c hx
  · intro h
    refine List.any_eq_true.2 ⟨c,?_,eqI_iff.2 rfl⟩
    have hall:=gth_all hW hU ha hlt (chL (ps.map nd) ck).reverse.length c
    rw [List.take_length] at hall
    refine hall ?_ h
    obtain ⟨n,hn⟩:=h
    obtain ⟨mx,hmx,e1,e2,_,_,e5⟩:=ovN_facts hW ha n c hn
    rcases e5 with rfl|⟨_,hlt2⟩
    · rw [askL];exact List.mem_cons_self
    · have hf:=hU.fnd hmx e1 e2
      rw [hck] at hf
      have hcc:c=((ck:Int),(fndI ps (ck:Int) ma.nm ma.ds).1):=by rw [hf];exact Prod.ext hck rfl
      rw [askL,hcc]
      refine List.mem_cons_of_mem _ (nsk_mem (List.mem_reverse.2 (chL_self _ _)) (by rw [hf]) (by omega))
set_option maxHeartbeats 2000000 in
theorem r9meth_c {b:Nat} {cs:List Cls} {ps:List Plc} {W:World} (h:RAt b cs W) (ht:TwW cs ps) (c i:Int) (x:HM) (hx:methI ps c i=some x):Calls Tryz.prog 143 #[.pointer (some ⟨b,0,none⟩),.agg #[.int .i64 c,.int .i64 i]] W fun e w'=>(∃ a n s,e=.returned (.agg #[.string x.nm,.string x.ds,.int .i64 x.fl,.int .i64 x.lo,.int .i64 x.st,.slice a n s]))∧Below W.heap.size W w':=by
  obtain ⟨k,q,rfl,hq,_,_⟩:=meth_plc hx
  obtain ⟨g,cap,bk,n,cm,j,ac,cc,rfl,b0,hlt,hgl,hkI,c5,hbk,hjn,e0,e1,e2,e3,e4,e5,_,_,_⟩:=h.meth ht hx
  clear h ht hx hq
  have hB:Below W.heap.size W ((W.alloc (.cells #[.int .i64 (k:Int),.int .i64 (j:Int)] 24)).alloc (.cells #[.string ⟨#[]⟩,.string ⟨#[]⟩,.int .i64 0,.int .i64 0,.int .i64 0,.slice none 0 0] 81)):=((Below.refl _ W).alloc (Nat.le_refl _) _).alloc (by simp) _
  have hA:((W.alloc (.cells #[.int .i64 (k:Int),.int .i64 (j:Int)] 24)).alloc (.cells #[.string ⟨#[]⟩,.string ⟨#[]⟩,.int .i64 0,.int .i64 0,.int .i64 0,.slice none 0 0] 81)).heap[W.heap.size]?=some (.cells #[.int .i64 (k:Int),.int .i64 (j:Int)] 24 (0,0)):=hkeep (halloc1 _ _)
  have hZ:((W.alloc (.cells #[.int .i64 (k:Int),.int .i64 (j:Int)] 24)).alloc (.cells #[.string ⟨#[]⟩,.string ⟨#[]⟩,.int .i64 0,.int .i64 0,.int .i64 0,.slice none 0 0] 81)).heap[W.heap.size+1]?=some (.cells #[.string ⟨#[]⟩,.string ⟨#[]⟩,.int .i64 0,.int .i64 0,.int .i64 0,.slice none 0 0] 81 (0,0)):=halloc2 _ _ (by simp)
  replace b0:=(hB.cell (p:=⟨b,0,none⟩) hlt).trans b0
  replace c5:=(hB.cell (p:=⟨g,k * 6+5,none⟩) hgl).trans c5
  replace e0:=(hB.cell (p:=⟨bk,j * 6,none⟩) hbk).trans e0
  replace e1:=(hB.cell (p:=⟨bk,j * 6+1,none⟩) hbk).trans e1
  replace e2:=(hB.cell (p:=⟨bk,j * 6+2,none⟩) hbk).trans e2
  replace e3:=(hB.cell (p:=⟨bk,j * 6+3,none⟩) hbk).trans e3
  replace e4:=(hB.cell (p:=⟨bk,j * 6+4,none⟩) hbk).trans e4
  replace e5:=(hB.cell (p:=⟨bk,j * 6+5,none⟩) hbk).trans e5
  obtain ⟨a0,a1,af,aL⟩:=rw2 hA
  obtain ⟨z0,z1,z2,z3,z4,z5,zf,zL⟩:=rw6 hZ
  have HBH:Hid _:=hB
  have y1:¬ bk=W.heap.size+1:=by omega
  have y2:¬ g=W.heap.size+1:=by omega
  have y3:¬ b=W.heap.size+1:=by omega
  clear hA hZ hB
  go_enter Tryz.func143,Tryz.ntmps143
  go_wp2
  generalize ((W.alloc (.cells #[.int .i64 (k:Int),.int .i64 (j:Int)] 24)).alloc (.cells #[.string ⟨#[]⟩,.string ⟨#[]⟩,.int .i64 0,.int .i64 0,.int .i64 0,.slice none 0 0] 81))=U at *
  go_region
  go_wp2
  refine bodyPost_ret (v:=.agg #[.string x.nm,.string x.ds,.int .i64 x.fl,.int .i64 x.lo,.int .i64 x.st,.slice ac x.n cc]) (by simp [results,Tryz.results143,go_sem, *]) rfl ⟨⟨_,_,_,rfl⟩,?_⟩
  repeat (first|refine Below.setCell ?_ (by simp;try omega) _|refine Below.drew ?_|exact HBH.out)
theorem r9free_c (nm ds:ByteArray) (fl lo st:Int) (a:Option Addr) (n s:Nat) (W:World):Calls Tryz.prog 144 #[.agg #[.string nm,.string ds,.int .i64 fl,.int .i64 lo,.int .i64 st,.slice a n s]] W fun e w'=>e=.returned (.bool (freB fl nm))∧Below W.heap.size W w':=by
  have HF:Hid (∀ w:World,Calls Tryz.prog 101 #[.int .i64 fl,.int .i64 8] w fun e w'=>e=.returned (.bool (hasI fl 8))∧w'=w):=has_any fl 8
  have e:freB fl nm=(!hasI fl 8&&!(nm.toList == [60,105,110,105,116,62])):=rfl
  rw [e]
  generalize hasI fl 8=F at *
  cases F
  all_goals
    go_enter Tryz.func144,Tryz.ntmps144
    go_wp2_with (go_at_call 101;refine (HF.out _).mono ?_;rintro e w9 ⟨rfl,hw9⟩;rw [hw9];clear hw9 w9)
  all_goals go_ret
  all_goals exact ⟨retB (by simp),(by repeat (first|exact Below.refl _ _|refine Below.setCell ?_ (by simp;try omega) _|refine Below.alloc ?_ (by simp;try omega) _|refine Below.drew ?_))⟩
set_option maxHeartbeats 4000000 in
theorem r9is_no {b:Nat} {cs:List Cls} {ps:List Plc} {W:World} (h:RAt b cs W) (ht:TwW cs ps) (c i:Int) (hm:plcI ps c=none):Calls Tryz.prog 66 #[.pointer (some ⟨b,0,none⟩),.agg #[.int .i64 c,.int .i64 i]] W fun e w'=>e=.returned (.bool false)∧Below W.heap.size W w':=by
  obtain ⟨σ,V,hne,V1,V2⟩:=class_of' (fun w'=>Below (W.heap.size+1) (W.alloc (.cells #[.int .i64 c,.int .i64 i] 24)) w') ⟨_,Below.refl _ _⟩
  have hBV:∀ s0,Below W.heap.size W (V s0):=fun s0=>((Below.refl _ W).alloc (Nat.le_refl _) _).trans ((V1.out s0).mono (by omega))
  have HI:Hid (∀ s0,Calls Tryz.prog 76 #[.pointer (some ⟨b,0,none⟩),.int .i64 c] (V s0) fun e w''=>e=.returned (.bool false)∧∃ s',w''=V s'):=fun s0=>(rIn_t (h.below (hBV s0)) ht c).mono fun e w'' zz=>⟨by rw [zz.1,hm];rfl,s0,zz.2⟩
  have m0:∀ s0,(V s0).cell? ⟨W.heap.size,0,none⟩=some (.int .i64 c):=fun s0=>((V1.out s0).cell (p:=⟨W.heap.size,0,none⟩) (show W.heap.size<W.heap.size+1 by omega)).trans (by simp [go_sem])
  have HBV:Hid (∀ s0,Below W.heap.size W (V s0)):=hBV
  have VD:Hid (∃ s1,(W.alloc (.cells #[.int .i64 c,.int .i64 i] 24)).drew=V s1):=V2.out _ ((Below.refl _ _).drew)
  clear h ht hm hBV V1 V2
  go_enter Tryz.func66,Tryz.ntmps66
  go_wp2
  refine wp_region_class (C:=fun w'=>∃ s0,w'=V s0) (by kernel_rfl) (by kernel_rfl) VD.out ?_
  repeat (go_big_quiet_step ((go_at_call 76;exact HI.out _)))
  refine wpQuiet_nil ?_
  intro w9 hw9
  obtain ⟨s9,rfl⟩:=hw9
  go_wp2
  exact bodyPost_ret (results_tmp rfl _ _ _) rfl ⟨rfl,HBV.out s9⟩
set_option maxHeartbeats 4000000 in
theorem r9is_yes {b:Nat} {cs:List Cls} {ps:List Plc} {W:World} (h:RAt b cs W) (ht:TwW cs ps) (k:Nat) (q:Plc) (hq:ps[k]?=some q) (i:Int):Calls Tryz.prog 66 #[.pointer (some ⟨b,0,none⟩),.agg #[.int .i64 (k:Int),.int .i64 i]] W fun e w'=>e=.returned (.bool (methP q i).isSome)∧Below W.heap.size W w':=by
  obtain ⟨c0,hc,hcq⟩:=ht.tw.at' hq
  obtain ⟨c,hcI⟩:∃ c:Int,c=(k:Int):=⟨_,rfl⟩
  rw [← hcI]
  obtain ⟨σ,V,hne,V1,V2⟩:=class_of' (fun w'=>Below (W.heap.size+1) (W.alloc (.cells #[.int .i64 c,.int .i64 i] 24)) w') ⟨_,Below.refl _ _⟩
  have hBV:∀ s0,Below W.heap.size W (V s0):=fun s0=>((Below.refl _ W).alloc (Nat.le_refl _) _).trans ((V1.out s0).mono (by omega))
  have HI:Hid (∀ s0,Calls Tryz.prog 76 #[.pointer (some ⟨b,0,none⟩),.int .i64 c] (V s0) fun e w''=>e=.returned (.bool true)∧∃ s',w''=V s'):=fun s0=>(rIn_t (h.below (hBV s0)) ht c).mono fun e w'' zz=>⟨by rw [zz.1,hcI,plcI_nat,hq];rfl,s0,zz.2⟩
  have m0:∀ s0,(V s0).cell? ⟨W.heap.size,0,none⟩=some (.int .i64 c):=fun s0=>((V1.out s0).cell (p:=⟨W.heap.size,0,none⟩) (show W.heap.size<W.heap.size+1 by omega)).trans (by simp [go_sem])
  have m1:∀ s0,(V s0).cell? ⟨W.heap.size,1,none⟩=some (.int .i64 i):=fun s0=>((V1.out s0).cell (p:=⟨W.heap.size,1,none⟩) (show W.heap.size<W.heap.size+1 by omega)).trans (by simp [go_sem])
  have HBV:Hid (∀ s0,Below W.heap.size W (V s0)):=hBV
  have VD:Hid (∃ s1,(W.alloc (.cells #[.int .i64 c,.int .i64 i] 24)).drew=V s1):=V2.out _ ((Below.refl _ _).drew)
  obtain ⟨g,cap,vi,vm,b0,hlt,hgl,_,_,_,_,_,c5,_,hMs⟩:=RAt.cells h hc
  obtain ⟨am,cm,rfl⟩:=mths_slice hMs
  have kp:∀ (s0:σ) (bb j:Nat) (v:Value),bb<W.heap.size→W.cell? ⟨bb,j,none⟩=some v→(V s0).cell? ⟨bb,j,none⟩=some v:=fun s0 bb j v hl h=>((hBV s0).cell (p:=⟨bb,j,none⟩) hl).trans h
  replace b0:=fun s0=>kp s0 _ _ _ hlt b0
  replace c5:=fun s0=>kp s0 _ _ _ hgl c5
  have hkI:(k:Int)<(cs.length:Int):=by have:=(List.getElem?_eq_some_iff.1 hc).1;omega
  have hlen:q.c.ms.length=c0.ms.length:=by rw [hcq];simp [hcOf]
  have hml:(i<0∧(methP q i).isSome=false)∨(0≤i∧(c0.ms.length:Int)≤i∧(methP q i).isSome=false)∨(0≤i∧i<(c0.ms.length:Int)∧(methP q i).isSome=true):=by
    rcases Int.lt_or_le i 0 with h0|h0
    · exact .inl ⟨h0,by rw [methP,if_neg (by omega)];rfl⟩
    · rcases Int.lt_or_le i (c0.ms.length:Int) with h1|h1
      · exact .inr (.inr ⟨h0,h1,by rw [methP,if_pos h0,List.getElem?_eq_getElem (by omega)];rfl⟩)
      · exact .inr (.inl ⟨h0,h1,by rw [methP,if_pos h0,List.getElem?_eq_none (by omega)];rfl⟩)
  generalize c0.ms.length=n at *
  generalize (methP q i).isSome=R at *
  subst hcI
  clear h ht hBV V1 V2 kp hMs hq hc hcq hlen
  have hml2:(R=false∧decide (0≤i)=false)∨(R=false∧decide (0≤i)=true∧decide (i<(n:Int))=false)∨(R=true∧decide (0≤i)=true∧decide (i<(n:Int))=true):=by
    rcases hml with ⟨h0,h1⟩|⟨h0,h1,h2⟩|⟨h0,h1,h2⟩
    · exact .inl ⟨h1,by simpa using h0⟩
    · exact .inr (.inl ⟨h2,by simpa using h0,by simpa using h1⟩)
    · exact .inr (.inr ⟨h2,by simpa using h0,by simpa using h1⟩)
  clear hml
  rcases hml2 with ⟨rfl,hi1⟩|⟨rfl,hi1,hi2⟩|⟨rfl,hi1,hi2⟩
  all_goals
    go_enter Tryz.func66,Tryz.ntmps66
    go_wp2
    refine wp_region_class (C:=fun w'=>∃ s0,w'=V s0) (by kernel_rfl) (by kernel_rfl) VD.out ?_
    repeat (go_big_quiet_step ((go_at_call 76;exact HI.out _)))
    refine wpQuiet_nil ?_
    intro w9 hw9
    obtain ⟨s9,rfl⟩:=hw9
    go_wp2
    exact bodyPost_ret (results_tmp rfl _ _ _) rfl ⟨by simp [*],HBV.out s9⟩
theorem r9is_c {b:Nat} {cs:List Cls} {ps:List Plc} {W:World} (h:RAt b cs W) (ht:TwW cs ps) (c i:Int):Calls Tryz.prog 66 #[.pointer (some ⟨b,0,none⟩),.agg #[.int .i64 c,.int .i64 i]] W fun e w'=>e=.returned (.bool (methI ps c i).isSome)∧Below W.heap.size W w':=by
  rcases plcI_cases ps c with ⟨h1,_⟩|⟨k,q,rfl,h2,h1⟩
  · have e:(methI ps c i).isSome=false:=by rw [methI,h1];rfl
    rw [e];exact r9is_no h ht c i h1
  · have e:methI ps (k:Int) i=methP q i:=by rw [methI,h1];rfl
    rw [e];exact r9is_yes h ht k q h2 i
theorem spC_eq {cs:List Cls} {ps:List Plc} (ht:TwW cs ps) (a b:Int):spC cs a b=spI ps a b:=by
  unfold spC spI
  rcases ht.tw.clsI a with ⟨h1,h2⟩|⟨k,c,q,rfl,hc,hq,hcq,h1,h2⟩
  · rw [h1,h2]
  · rw [h1,h2]
    rcases ht.tw.clsI b with ⟨g1,g2⟩|⟨k',c',q',rfl,hc',hq',hcq',g1,g2⟩
    · rw [g1,g2]
    · rw [g1,g2]
      show togB c c'=samePk q q'
      unfold togB samePk
      rw [hcq,hcq'];rfl
theorem ifcC_eq {cs:List Cls} {ps:List Plc} (ht:TwW cs ps) (a:Int):ifcC cs a=ifcI ps a:=by
  unfold ifcC ifcI
  rcases ht.tw.clsI a with ⟨h1,h2⟩|⟨k,c,q,rfl,hc,hq,hcq,h1,h2⟩
  · rw [h1,h2]
  · rw [h1,h2]
    simp only
    rw [hcq];rfl
theorem rOpen3_c (f:Int) (W:World):Calls Tryz.prog 145 #[.int .i64 f] W fun e w'=>e=.returned (.int .i64 (openI f))∧w'=W:=by
  have H1:Hid (∀ (z:Int) (w:World),z=1→Calls Tryz.prog 101 #[.int .i64 f,.int .i64 z] w fun e w'=>e=.returned (.bool (hasI f 1))∧w'=w):=fun z w hz=>by rw [hz];exact has_any f 1 w
  have H4:Hid (∀ (z:Int) (w:World),z=4→Calls Tryz.prog 101 #[.int .i64 f,.int .i64 z] w fun e w'=>e=.returned (.bool (hasI f 4))∧w'=w):=fun z w hz=>by rw [hz];exact has_any f 4 w
  have H2:Hid (∀ (z:Int) (w:World),z=2→Calls Tryz.prog 101 #[.int .i64 f,.int .i64 z] w fun e w'=>e=.returned (.bool (hasI f 2))∧w'=w):=fun z w hz=>by rw [hz];exact has_any f 2 w
  unfold openI
  generalize hasI f 1=a1 at *
  generalize hasI f 4=a4 at *
  generalize hasI f 2=a2 at *
  cases a1 <;> cases a4 <;> cases a2
  all_goals
    go_enter Tryz.func145,Tryz.ntmps145
    go_wp2_with (first
      | (go_at_call 101;refine (H1.out _ _ (by rfl)).mono ?_;rintro e w9 ⟨rfl,hw9⟩;rw [hw9];clear hw9 w9)
      | (go_at_call 101;refine (H4.out _ _ (by rfl)).mono ?_;rintro e w9 ⟨rfl,hw9⟩;rw [hw9];clear hw9 w9)
      | (go_at_call 101;refine (H2.out _ _ (by rfl)).mono ?_;rintro e w9 ⟨rfl,hw9⟩;rw [hw9];clear hw9 w9))
    exact bodyPost_ret (results_tmp rfl _ _ _) rfl ⟨rfl,rfl⟩
def SndI (ps:List Plc):Prop:=∀ q∈ps,∀ m∈q.c.ms,∃ n,chkM m.fl (ifB q.c.fl) n=0
theorem sndI3:SndI P3:=by
  intro q hq m hm
  simp only [P3,List.mem_cons,List.not_mem_nil,or_false] at hq
  rcases hq with rfl|rfl|rfl
  · simp only [objH,objMs,List.mem_cons,List.not_mem_nil,or_false] at hm
    rcases hm with rfl|rfl|rfl <;> exact ⟨false,by decide⟩
  · simp only [cloH,List.not_mem_nil] at hm
  · simp only [serH,List.not_mem_nil] at hm
theorem sndI_wld (l:List Cls) (hl:∀ c∈l,ClsW c):SndI (wld l):=by
  refine wld_ind sndI3 (fun ps c h _=>?_) l hl
  cases hd:defN ps c with
  | error e=>exact h
  | ok p =>
    obtain ⟨hB,_,_,s,l,_,_,rfl⟩:=def_ok hd
    intro q hq m hm
    rcases List.mem_append.1 (show q∈ps++[_] from hq) with hq|hq
    · exact h q hq m hm
    · rw [List.mem_singleton] at hq
      subst hq
      obtain ⟨m0,hm0,rfl⟩:=List.mem_map.1 (show m∈c.ms.map hmOf from hm)
      rw [clsB,Bool.and_eq_true] at hB
      have hmb:=mths_eachp hB.2 m0 hm0
      simp only [mthB,Bool.and_eq_true,beq_iff_eq] at hmb
      exact ⟨_,hmb.1.1.1.2⟩
set_option maxHeartbeats 16000000 in
theorem r9pw (W:World) (b:Nat) (c1 c2 a1 a2:Int) (xn xd:ByteArray) (xf xl xs:Int) (yn yd:ByteArray) (yf yl ys:Int) (f1 f2 p2 ic ex ia sp R:Bool) (o:Int)
    (hR:(f1=false∧R=false)∨(f1=true∧f2=false∧R=false)∨(f1=true∧f2=true∧(xn.toList == yn.toList)=false∧R=false)∨(f1=true∧f2=true∧(xn.toList == yn.toList)=true∧(xd.toList == yd.toList)=false∧R=false)∨(f1=true∧f2=true∧(xn.toList == yn.toList)=true∧(xd.toList == yd.toList)=true∧p2=true∧R=false)∨(f1=true∧f2=true∧(xn.toList == yn.toList)=true∧(xd.toList == yd.toList)=true∧p2=false∧ic=true∧R=false)∨(f1=true∧f2=true∧(xn.toList == yn.toList)=true∧(xd.toList == yd.toList)=true∧p2=false∧ic=false∧(c1 == a1)=true∧R=false)∨(f1=true∧f2=true∧(xn.toList == yn.toList)=true∧(xd.toList == yd.toList)=true∧p2=false∧ic=false∧(c1 == a1)=false∧ex=false∧R=false)∨(f1=true∧f2=true∧(xn.toList == yn.toList)=true∧(xd.toList == yd.toList)=true∧p2=false∧ic=false∧(c1 == a1)=false∧ex=true∧ia=true∧o=2∧R=false)∨(f1=true∧f2=true∧(xn.toList == yn.toList)=true∧(xd.toList == yd.toList)=true∧p2=false∧ic=false∧(c1 == a1)=false∧ex=true∧ia=true∧o=1∧R=true)∨(f1=true∧f2=true∧(xn.toList == yn.toList)=true∧(xd.toList == yd.toList)=true∧p2=false∧ic=false∧(c1 == a1)=false∧ex=true∧ia=true∧o=4∧R=true)∨(f1=true∧f2=true∧(xn.toList == yn.toList)=true∧(xd.toList == yd.toList)=true∧p2=false∧ic=false∧(c1 == a1)=false∧ex=true∧ia=true∧o=0∧R=true)∨(f1=true∧f2=true∧(xn.toList == yn.toList)=true∧(xd.toList == yd.toList)=true∧p2=false∧ic=false∧(c1 == a1)=false∧ex=true∧ia=false∧o=1∧R=true)∨(f1=true∧f2=true∧(xn.toList == yn.toList)=true∧(xd.toList == yd.toList)=true∧p2=false∧ic=false∧(c1 == a1)=false∧ex=true∧ia=false∧o=4∧R=true)∨(f1=true∧f2=true∧(xn.toList == yn.toList)=true∧(xd.toList == yd.toList)=true∧p2=false∧ic=false∧(c1 == a1)=false∧ex=true∧ia=false∧o=2∧R=false)∨(f1=true∧f2=true∧(xn.toList == yn.toList)=true∧(xd.toList == yd.toList)=true∧p2=false∧ic=false∧(c1 == a1)=false∧ex=true∧ia=false∧o=0∧sp=true∧R=true)∨(f1=true∧f2=true∧(xn.toList == yn.toList)=true∧(xd.toList == yd.toList)=true∧p2=false∧ic=false∧(c1 == a1)=false∧ex=true∧ia=false∧o=0∧sp=false∧R=false))
    (HM1:Hid (∀ w,Below W.heap.size W w→Calls Tryz.prog 143 #[.pointer (some ⟨b,0,none⟩),.agg #[.int .i64 c1,.int .i64 c2]] w fun e w'=>(∃ a n s,e=.returned (.agg #[.string xn,.string xd,.int .i64 xf,.int .i64 xl,.int .i64 xs,.slice a n s]))∧Below w.heap.size w w'))
    (HM2:Hid (∀ w,Below W.heap.size W w→Calls Tryz.prog 143 #[.pointer (some ⟨b,0,none⟩),.agg #[.int .i64 a1,.int .i64 a2]] w fun e w'=>(∃ a n s,e=.returned (.agg #[.string yn,.string yd,.int .i64 yf,.int .i64 yl,.int .i64 ys,.slice a n s]))∧Below w.heap.size w w'))
    (HF1:Hid (∀ a n s w,Below W.heap.size W w→Calls Tryz.prog 144 #[.agg #[.string xn,.string xd,.int .i64 xf,.int .i64 xl,.int .i64 xs,.slice a n s]] w fun e w'=>(e=.returned (.bool f1))∧Below w.heap.size w w'))
    (HF2:Hid (∀ a n s w,Below W.heap.size W w→Calls Tryz.prog 144 #[.agg #[.string yn,.string yd,.int .i64 yf,.int .i64 yl,.int .i64 ys,.slice a n s]] w fun e w'=>(e=.returned (.bool f2))∧Below w.heap.size w w'))
    (HH:Hid (∀ w,Calls Tryz.prog 101 #[.int .i64 xf,.int .i64 2] w fun e w'=>(e=.returned (.bool p2))∧w'=w))
    (HI1:Hid (∀ w,Below W.heap.size W w→Calls Tryz.prog 99 #[.pointer (some ⟨b,0,none⟩),.int .i64 c1] w fun e w'=>(e=.returned (.bool ic))∧w'=w))
    (HI2:Hid (∀ w,Below W.heap.size W w→Calls Tryz.prog 99 #[.pointer (some ⟨b,0,none⟩),.int .i64 a1] w fun e w'=>(e=.returned (.bool ia))∧w'=w))
    (HE:Hid (∀ w,Below W.heap.size W w→Calls Tryz.prog 116 #[.pointer (some ⟨b,0,none⟩),.int .i64 c1,.int .i64 a1] w fun e w'=>(e=.returned (.bool ex))∧Below w.heap.size w w'))
    (HO:Hid (∀ w,Calls Tryz.prog 145 #[.int .i64 yf] w fun e w'=>(e=.returned (.int .i64 o))∧w'=w))
    (HS:Hid (∀ w,Below W.heap.size W w→Calls Tryz.prog 146 #[.pointer (some ⟨b,0,none⟩),.int .i64 c1,.int .i64 a1] w fun e w'=>(e=.returned (.bool sp))∧Below w.heap.size w w')):Calls Tryz.prog 67 #[.pointer (some ⟨b,0,none⟩),.agg #[.int .i64 c1,.int .i64 c2],.agg #[.int .i64 a1,.int .i64 a2]] W fun e w'=>e=.returned (.bool R)∧Below W.heap.size W w':=by
  have BB:Hid (Below W.heap.size W W):=Below.refl _ _
  rcases hR with ⟨rfl,rfl⟩|⟨rfl,rfl,rfl⟩|⟨rfl,rfl,hen,rfl⟩|⟨rfl,rfl,hen,hed,rfl⟩|⟨rfl,rfl,hen,hed,rfl,rfl⟩|⟨rfl,rfl,hen,hed,rfl,rfl,rfl⟩|⟨rfl,rfl,hen,hed,rfl,rfl,hce,rfl⟩|⟨rfl,rfl,hen,hed,rfl,rfl,hce,rfl,rfl⟩|⟨rfl,rfl,hen,hed,rfl,rfl,hce,rfl,rfl,rfl,rfl⟩|⟨rfl,rfl,hen,hed,rfl,rfl,hce,rfl,rfl,rfl,rfl⟩|⟨rfl,rfl,hen,hed,rfl,rfl,hce,rfl,rfl,rfl,rfl⟩|⟨rfl,rfl,hen,hed,rfl,rfl,hce,rfl,rfl,rfl,rfl⟩|⟨rfl,rfl,hen,hed,rfl,rfl,hce,rfl,rfl,rfl,rfl⟩|⟨rfl,rfl,hen,hed,rfl,rfl,hce,rfl,rfl,rfl,rfl⟩|⟨rfl,rfl,hen,hed,rfl,rfl,hce,rfl,rfl,rfl,rfl⟩|⟨rfl,rfl,hen,hed,rfl,rfl,hce,rfl,rfl,rfl,rfl,rfl⟩|⟨rfl,rfl,hen,hed,rfl,rfl,hce,rfl,rfl,rfl,rfl,rfl⟩
  all_goals
    go_enter Tryz.func67,Tryz.ntmps67
    go_wp2_with (first
      | (go_at_call 143;refine (HM1.out _ (by repeat (first|refine Below.setCell ?_ (by simp;try omega) _|refine Below.alloc ?_ (by have:=BB.out.size;simp;try omega) _|refine Below.drew ?_|exact BB.out))).mono ?_;rintro e w1 ⟨⟨xa,xk,xo,rfl⟩,hb⟩;have cbd:=kp2 (n:=W.heap.size) hb (by first|omega|(simp;try omega)) (hkeep (halloc1 _ _));(try clear cbB cb0 cb1 cbf cbL cbN);obtain ⟨cbB,cb0,cb1,cbf,cbL,cbN⟩:=cbd;have abd:=kp2 (n:=W.heap.size+1) hb (by first|omega|(simp;try omega)) (halloc2 _ _ (by simp));(try clear abB ab0 ab1 abf abL abN);obtain ⟨abB,ab0,ab1,abf,abL,abN⟩:=abd;have BB2:Below W.heap.size W w1:=bstep (by repeat (first|refine Below.setCell ?_ (by simp;try omega) _|refine Below.alloc ?_ (by have:=BB.out.size;simp;try omega) _|refine Below.drew ?_|exact BB.out)) hb;clear BB;have BB:Hid (Below W.heap.size W w1):=BB2;clear HM1;clear BB2 hb)
      | (go_at_call 143;refine (HM2.out _ (by repeat (first|refine Below.setCell ?_ (by simp;try omega) _|refine Below.alloc ?_ (by have:=BB.out.size;simp;try omega) _|refine Below.drew ?_|exact BB.out))).mono ?_;rintro e w2 ⟨⟨ya,yk,yo,rfl⟩,hb⟩;have cbd:=kp2 (n:=W.heap.size) hb (by first|omega|(simp;try omega)) (hkeep cbB.out);(try clear cbB cb0 cb1 cbf cbL cbN);obtain ⟨cbB,cb0,cb1,cbf,cbL,cbN⟩:=cbd;have abd:=kp2 (n:=W.heap.size+1) hb (by first|omega|(simp;try omega)) (hkeep abB.out);(try clear abB ab0 ab1 abf abL abN);obtain ⟨abB,ab0,ab1,abf,abL,abN⟩:=abd;have mxd:=kp6 (n:=w1.heap.size) hb (by first|omega|(simp;try omega)) (halloc1 _ _);(try clear mxB mx0 mx1 mx2 mx3 mx4 mx5 mxf mxL mxN);obtain ⟨mxB,mx0,mx1,mx2,mx3,mx4,mx5,mxf,mxL,mxN⟩:=mxd;have BB2:Below W.heap.size W w2:=bstep (by repeat (first|refine Below.setCell ?_ (by simp;try omega) _|refine Below.alloc ?_ (by have:=BB.out.size;simp;try omega) _|refine Below.drew ?_|exact BB.out)) hb;clear BB;have BB:Hid (Below W.heap.size W w2):=BB2;clear HM2;clear BB2 hb)
      | (go_at_call 144;refine (HF1.out _ _ _ _ (by repeat (first|refine Below.setCell ?_ (by simp;try omega) _|refine Below.alloc ?_ (by have:=BB.out.size;simp;try omega) _|refine Below.drew ?_|exact BB.out))).mono ?_;rintro e w3 ⟨rfl,hb⟩;have cbd:=kp2 (n:=W.heap.size) hb (by first|omega|(simp;try omega)) (hkeep cbB.out);(try clear cbB cb0 cb1 cbf cbL cbN);obtain ⟨cbB,cb0,cb1,cbf,cbL,cbN⟩:=cbd;have abd:=kp2 (n:=W.heap.size+1) hb (by first|omega|(simp;try omega)) (hkeep abB.out);(try clear abB ab0 ab1 abf abL abN);obtain ⟨abB,ab0,ab1,abf,abL,abN⟩:=abd;have mxd:=kp6 (n:=w1.heap.size) hb (by first|omega|(simp;try omega)) (hkeep mxB.out);(try clear mxB mx0 mx1 mx2 mx3 mx4 mx5 mxf mxL mxN);obtain ⟨mxB,mx0,mx1,mx2,mx3,mx4,mx5,mxf,mxL,mxN⟩:=mxd;have myd:=kp6 (n:=w2.heap.size) hb (by first|omega|(simp;try omega)) (halloc1 _ _);(try clear myB my0 my1 my2 my3 my4 my5 myf myL myN);obtain ⟨myB,my0,my1,my2,my3,my4,my5,myf,myL,myN⟩:=myd;have BB2:Below W.heap.size W w3:=bstep (by repeat (first|refine Below.setCell ?_ (by simp;try omega) _|refine Below.alloc ?_ (by have:=BB.out.size;simp;try omega) _|refine Below.drew ?_|exact BB.out)) hb;clear BB;have BB:Hid (Below W.heap.size W w3):=BB2;clear HF1;clear BB2 hb)
      | (go_at_call 144;refine (HF2.out _ _ _ _ (by repeat (first|refine Below.setCell ?_ (by simp;try omega) _|refine Below.alloc ?_ (by have:=BB.out.size;simp;try omega) _|refine Below.drew ?_|exact BB.out))).mono ?_;rintro e w4 ⟨rfl,hb⟩;have cbd:=kp2 (n:=W.heap.size) hb (by first|omega|(simp;try omega)) (cbB.out);(try clear cbB cb0 cb1 cbf cbL cbN);obtain ⟨cbB,cb0,cb1,cbf,cbL,cbN⟩:=cbd;have abd:=kp2 (n:=W.heap.size+1) hb (by first|omega|(simp;try omega)) (abB.out);(try clear abB ab0 ab1 abf abL abN);obtain ⟨abB,ab0,ab1,abf,abL,abN⟩:=abd;have mxd:=kp6 (n:=w1.heap.size) hb (by first|omega|(simp;try omega)) (mxB.out);(try clear mxB mx0 mx1 mx2 mx3 mx4 mx5 mxf mxL mxN);obtain ⟨mxB,mx0,mx1,mx2,mx3,mx4,mx5,mxf,mxL,mxN⟩:=mxd;have myd:=kp6 (n:=w2.heap.size) hb (by first|omega|(simp;try omega)) (myB.out);(try clear myB my0 my1 my2 my3 my4 my5 myf myL myN);obtain ⟨myB,my0,my1,my2,my3,my4,my5,myf,myL,myN⟩:=myd;have BB2:Below W.heap.size W w4:=bstep (by repeat (first|refine Below.setCell ?_ (by simp;try omega) _|refine Below.alloc ?_ (by have:=BB.out.size;simp;try omega) _|refine Below.drew ?_|exact BB.out)) hb;clear BB;have BB:Hid (Below W.heap.size W w4):=BB2;clear HF2;clear BB2 hb)
      | (go_at_call 101;refine (HH.out _).mono ?_;rintro e w9 ⟨rfl,hw9⟩;rw [hw9];clear hw9 w9)
      | (go_at_call 99;refine (HI1.out _ (by repeat (first|refine Below.setCell ?_ (by simp;try omega) _|refine Below.alloc ?_ (by have:=BB.out.size;simp;try omega) _|refine Below.drew ?_|exact BB.out))).mono ?_;rintro e w9 ⟨rfl,hw9⟩;rw [hw9];clear hw9 w9;clear HI1)
      | (go_at_call 99;refine (HI2.out _ (by repeat (first|refine Below.setCell ?_ (by simp;try omega) _|refine Below.alloc ?_ (by have:=BB.out.size;simp;try omega) _|refine Below.drew ?_|exact BB.out))).mono ?_;rintro e w9 ⟨rfl,hw9⟩;rw [hw9];clear hw9 w9)
      | (go_at_call 116;refine (HE.out _ (by repeat (first|refine Below.setCell ?_ (by simp;try omega) _|refine Below.alloc ?_ (by have:=BB.out.size;simp;try omega) _|refine Below.drew ?_|exact BB.out))).mono ?_;rintro e w5 ⟨rfl,hb⟩;have cbd:=kp2 (n:=W.heap.size) hb (by first|omega|(simp;try omega)) (cbB.out);(try clear cbB cb0 cb1 cbf cbL cbN);obtain ⟨cbB,cb0,cb1,cbf,cbL,cbN⟩:=cbd;have abd:=kp2 (n:=W.heap.size+1) hb (by first|omega|(simp;try omega)) (abB.out);(try clear abB ab0 ab1 abf abL abN);obtain ⟨abB,ab0,ab1,abf,abL,abN⟩:=abd;have myd:=kp6 (n:=w2.heap.size) hb (by first|omega|(simp;try omega)) (myB.out);(try clear myB my0 my1 my2 my3 my4 my5 myf myL myN);obtain ⟨myB,my0,my1,my2,my3,my4,my5,myf,myL,myN⟩:=myd;have BB2:Below W.heap.size W w5:=bstep (by repeat (first|refine Below.setCell ?_ (by simp;try omega) _|refine Below.alloc ?_ (by have:=BB.out.size;simp;try omega) _|refine Below.drew ?_|exact BB.out)) hb;clear BB;have BB:Hid (Below W.heap.size W w5):=BB2;clear HE;clear BB2 hb)
      | (go_at_call 145;refine (HO.out _).mono ?_;rintro e w9 ⟨rfl,hw9⟩;rw [hw9];clear hw9 w9)
      | (go_at_call 146;refine (HS.out _ (by repeat (first|refine Below.setCell ?_ (by simp;try omega) _|refine Below.alloc ?_ (by have:=BB.out.size;simp;try omega) _|refine Below.drew ?_|exact BB.out))).mono ?_;rintro e w6 ⟨rfl,hb⟩;have BB2:Below W.heap.size W w6:=bstep (by repeat (first|refine Below.setCell ?_ (by simp;try omega) _|refine Below.alloc ?_ (by have:=BB.out.size;simp;try omega) _|refine Below.drew ?_|exact BB.out)) hb;clear BB;have BB:Hid (Below W.heap.size W w6):=BB2;clear HS;clear BB2 hb))
  all_goals go_ret
  all_goals exact ⟨retB (by simp [*]),(by repeat (first|refine Below.setCell ?_ (by simp;try omega) _|refine Below.alloc ?_ (by have:=BB.out.size;simp;try omega) _|refine Below.drew ?_|exact BB.out))⟩
theorem SndI.priv {ps:List Plc} (h:SndI ps) {c i:Int} {m:HM} (hm:methI ps c i=some m):hasI m.fl 2=(openI m.fl == 2):=by
  obtain ⟨k,q,_,hq,hp,h4⟩:=meth_plc hm
  have hmem:m∈q.c.ms:=by
    rw [methP] at h4
    split at h4
    · exact List.mem_of_getElem? h4
    · cases h4
  obtain ⟨n,hc⟩:=h q (List.mem_of_getElem? hq) m hmem
  cases e:hasI m.fl 2 with
  | true=>rw [(priv_open hc e).1];rfl
  | false =>
    rw [openI,e]
    cases hasI m.fl 1 <;> cases hasI m.fl 4 <;> rfl
theorem r9plain_c {b:Nat} {cs:List Cls} {ps:List Plc} {W:World} (h:RAt b cs W) (ht:TwW cs ps) (hJ:WJ ps) (hS:SndI ps) (hz:∀ c∈cs,c.nm.size≤maxLen) (c1 c2 a1 a2:Int) (x y:HM) (hx:methI ps c1 c2=some x) (hy:methI ps a1 a2=some y):Calls Tryz.prog 67 #[.pointer (some ⟨b,0,none⟩),.agg #[.int .i64 c1,.int .i64 c2],.agg #[.int .i64 a1,.int .i64 a2]] W fun e w'=>e=.returned (.bool (plI ps (c1,c2) (a1,a2)))∧Below W.heap.size W w':=by
  have eR:plI ps (c1,c2) (a1,a2)=plnB ps x.nm x.ds x.fl c1 y.nm y.ds y.fl a1:=by rw [plI];simp only [hx,hy]
  rw [eR]
  refine r9pw W b c1 c2 a1 a2 x.nm x.ds x.fl x.lo x.st y.nm y.ds y.fl y.lo y.st (freB x.fl x.nm) (freB y.fl y.nm) (hasI x.fl 2) (ifcI ps c1) (extI ps c1 a1) (ifcI ps a1) (spI ps c1 a1) _ (openI y.fl) ?_ (fun w hb=>r9meth_c (h.below hb) ht c1 c2 x hx) (fun w hb=>r9meth_c (h.below hb) ht a1 a2 y hy) (fun a n s w hb=>r9free_c _ _ _ _ _ a n s w) (fun a n s w hb=>r9free_c _ _ _ _ _ a n s w) (fun w=>has_any x.fl 2 w) (fun w hb=>?_) (fun w hb=>?_) (fun w hb=>rExtends_c (h.below hb) ht hJ c1 a1) (fun w=>rOpen3_c y.fl w) (fun w hb=>?_)
  · rw [plnB,bloB,← hS.priv hx,reaB]
    have ho:=open_cases y.fl
    generalize freB x.fl x.nm=f1 at *
    generalize freB y.fl y.nm=f2 at *
    generalize (x.nm.toList == y.nm.toList)=en at *
    generalize (x.ds.toList == y.ds.toList)=ed at *
    generalize hasI x.fl 2=p2 at *
    generalize ifcI ps c1=ic at *
    generalize (c1 == a1)=ce at *
    generalize extI ps c1 a1=ex at *
    generalize ifcI ps a1=ia at *
    generalize spI ps c1 a1=sp at *
    generalize openI y.fl=o at *
    clear eR hx hy
    cases f1
    · exact .inl (by simp)
    refine .inr ?_
    cases f2
    · exact .inl (by simp)
    refine .inr ?_
    cases en
    · exact .inl (by simp)
    refine .inr ?_
    cases ed
    · exact .inl (by simp)
    refine .inr ?_
    cases p2
    rotate_left
    · exact .inl (by simp)
    refine .inr ?_
    cases ic
    rotate_left
    · exact .inl (by simp)
    refine .inr ?_
    cases ce
    rotate_left
    · exact .inl (by simp)
    refine .inr ?_
    cases ex
    · exact .inl (by simp)
    refine .inr ?_
    cases ia <;> cases sp <;> rcases ho with rfl|rfl|rfl|rfl <;> simp
  · exact (rIsIface_c (h.below hb) c1).mono fun e w' zz=>⟨by rw [zz.1,ifcC_eq ht],zz.2⟩
  · exact (rIsIface_c (h.below hb) a1).mono fun e w' zz=>⟨by rw [zz.1,ifcC_eq ht],zz.2⟩
  · exact (rSame_c (h.below hb) hz c1 a1).mono fun e w' zz=>⟨by rw [zz.1,spC_eq ht],zz.2⟩
theorem any_take {p:Int×Int→Bool} {A:List (Int×Int)} {i:Nat} {x:Int×Int} (h:A[i]?=some x):(A.take (i+1)).any p=((A.take i).any p||p x):=by
  rw [List.take_add_one,h,List.any_append]
  simp
set_option maxHeartbeats 4000000 in
theorem r9in_c {W:World} {N:Nat} (A:List (Int×Int)) (hA:A.length≤1000000) (v:Value) (hO:W.ownsRow N 24 2 v A.length (flatD A)) (m1 m2:Int):Calls Tryz.prog 72 #[v,.agg #[.int .i64 m1,.int .i64 m2]] W fun e w'=>e=.returned (.bool (A.any fun x=>(x.1 == m1)&&(x.2 == m2)))∧Below W.heap.size W w':=by
  obtain ⟨K,hK⟩:∃ K,A.length=K:=⟨_,rfl⟩
  have HK:Hid (A.length=K):=hK
  obtain ⟨R,hR⟩:∃ R,(A.any fun x=>(x.1 == m1)&&(x.2 == m2))=R:=⟨_,rfl⟩
  have HR:Hid ((A.any fun x=>(x.1 == m1)&&(x.2 == m2))=R):=hR
  rw [hR]
  rw [hK] at hA
  obtain ⟨va,vc,rfl⟩:=ownv hO
  have HO:Hid (W.ownsRow N 24 2 (.slice va A.length vc) A.length (flatD A)):=hO
  rw [hK]
  obtain ⟨σ,V,hne,V1,V2⟩:=class_of' (fun w'=>Below (W.heap.size+1) (W.alloc (.cells #[.int .i64 m1,.int .i64 m2] 24)) w') ⟨_,Below.refl _ _⟩
  have HBV:Hid (∀ s0,Below W.heap.size W (V s0)):=fun s0=>((Below.refl _ W).alloc (Nat.le_refl _) _).trans ((V1.out s0).mono (by omega))
  have mV0:∀ s0,(V s0).cell? ⟨W.heap.size,0,none⟩=some (.int .i64 m1):=fun s0=>((V1.out s0).cell (p:=⟨W.heap.size,0,none⟩) (show W.heap.size<W.heap.size+1 by omega)).trans (by simp [go_sem])
  have mV1:∀ s0,(V s0).cell? ⟨W.heap.size,1,none⟩=some (.int .i64 m2):=fun s0=>((V1.out s0).cell (p:=⟨W.heap.size,1,none⟩) (show W.heap.size<W.heap.size+1 by omega)).trans (by simp [go_sem])
  clear hK hR hO
  go_enter Tryz.func72,Tryz.ntmps72
  go_wp2
  go_loopw [5] (fun kv wr=>∃ (j:Nat),kv=.int .i64 j∧j≤K∧Hid (((A.take j).any fun x=>(x.1 == m1)&&(x.2 == m2))=false)∧Hid (Below (W.heap.size+1) (W.alloc (.cells #[.int .i64 m1,.int .i64 m2] 24)) wr)) (fun kv _=>K - (intOf kv).toNat)
  case atStart=>exact ⟨0,rfl,Nat.zero_le _,rfl,Below.refl _ _⟩
  case round =>
    obtain ⟨j,rfl,hj,hG,hB⟩:=hrel
    by_cases hlt:j<K
    · have hjA:j<A.length:=by rw [HK.out];exact hlt
      have hjI:(j:Int)<(K:Int):=by omega
      obtain ⟨x,hx⟩:∃ x,A[j]?=some x:=⟨_,List.getElem?_eq_getElem hjA⟩
      obtain ⟨g,c2,hform⟩:=Go.Joins.ownsRow_form HO.out (by omega)
      have HROW:Hid (W.ownsRow N 24 2 (.slice (some ⟨g,0,none⟩) A.length vc) A.length (flatD A)):=by
        have hrow:=HO.out
        injection hform with hca _ _
        rw [Hid,← hca];exact hrow
      injection hform with hca _ hcc
      subst hca hcc
      obtain ⟨e0,e1,hgl⟩:=rowD_cells HROW.out hx
      replace e0:=fun s0=>((HBV.out s0).cell (p:=⟨g,j * 2,none⟩) hgl).trans e0
      replace e1:=fun s0=>((HBV.out s0).cell (p:=⟨g,j * 2+1,none⟩) hgl).trans e1
      have hst:=any_take (p:=fun x=>(x.1 == m1)&&(x.2 == m2)) hx
      rw [hG.out,Bool.false_or] at hst
      have HQ:Hid (∀ s,Calls Tryz.prog 24 #[.agg #[.int .i64 x.1,.int .i64 x.2],.agg #[.int .i64 m1,.int .i64 m2]] (V s) fun e w''=>e=.returned (.bool ((x.1 == m1)&&(x.2 == m2)))∧∃ s',w''=V s'):=fun s=>(sameID_c x (m1,m2) (V s)).mono fun e w'' zz=>⟨zz.1,V2.out _ ((V1.out s).trans (zz.2.mono (Nat.le_trans (by simp) (V1.out s).size)))⟩
      have hall:((x.1 == m1)&&(x.2 == m2))=true→R=true:=fun h=>by
        rw [← HR.out]
        exact List.any_eq_true.2 ⟨x,List.mem_of_getElem? hx,h⟩
      have HST:Hid _:=hst
      obtain ⟨x1,x2⟩:=x
      simp only at e0 e1 HQ hall HST
      generalize ((x1 == m1)&&(x2 == m2))=S at *
      clear hx hst hG hjA HROW
      go_wp2
      refine wp_region_class (C:=fun w'=>∃ s,w'=V s) (by kernel_rfl) (by kernel_rfl) (V2.out _ (hB.out.drew)) ?_
      repeat (go_big_quiet_step ((go_at_call 24;exact HQ.out _)))
      refine wpQuiet_nil ?_
      intro w9 hw9
      obtain ⟨s9,hw9⟩:=hw9
      have B9:Hid (Below (W.heap.size+1) (W.alloc (.cells #[.int .i64 m1,.int .i64 m2] 24)) w9):=by rw [hw9];exact V1.out s9
      have B8:Hid (Below W.heap.size W w9):=by rw [hw9];exact HBV.out s9
      clear hw9
      cases S
      case true =>
        obtain rfl:=hall rfl
        go_wp2
        all_goals go_ret
        all_goals exact ⟨retB (by simp),B8.out⟩
      case false =>
        go_wp2
        go_roundw
        case rel=>exact ⟨j+1,by go_num,by omega,HST.out,B9⟩
        case measure=>simp [intOf];omega
    · have e:j=K:=by omega
      subst e
      have eR:R=false:=by
        have:=hG.out
        rw [← HK.out,List.take_length] at this
        rw [← HR.out];exact this
      subst eR
      clear hG HR
      have B8:Hid (Below W.heap.size W wr):=((Below.refl _ W).alloc (Nat.le_refl _) _).trans (hB.out.mono (by omega))
      go_wp2
      all_goals go_ret
      all_goals exact ⟨retB (by simp),B8.out⟩
def namL (ps:List Plc) (nm ds:ByteArray):Nat→List (Int×Int)
  | 0=>[]
  | k+1=>namL ps nm ds k++if (fndI ps (k:Int) nm ds).2=0∧ifcI ps (k:Int)=false then [((k:Int),(fndI ps (k:Int) nm ds).1)] else []
theorem namL_len (ps:List Plc) (nm ds:ByteArray):∀ n,(namL ps nm ds n).length≤n
  | 0=>Nat.le_refl _
  | k+1=>by
    have:=namL_len ps nm ds k
    rw [namL,List.length_append]
    split <;> simp <;> omega
theorem RAt.head {b:Nat} {cs:List Cls} {w:World} (h:RAt b cs w):∃ a cap,w.cell? ⟨b,0,none⟩=some (.slice a cs.length cap):=by
  obtain ⟨N,v,rs,hW,hrc⟩:=h
  have b0:=cell_of_row w b 0 _ _ _ hW.hb
  simp only [List.getElem?_toArray,List.getElem?_cons_zero] at b0
  obtain ⟨a,c,rfl⟩:=ownv hW.row
  have e:rs.length=cs.length:=by rw [← hrc,List.length_map]
  rw [e] at b0
  exact ⟨a,c,b0⟩
set_option maxHeartbeats 8000000 in
theorem r9named_c {b:Nat} {cs:List Cls} {ps:List Plc} {W:World} (h:RAt b cs W) (ht:TwW cs ps) (c i:Int) (x:HM) (hx:methI ps c i=some x):Calls Tryz.prog 152 #[.pointer (some ⟨b,0,none⟩),.agg #[.int .i64 c,.int .i64 i]] W fun e w'=>(∃ v,e=.returned v∧w'.ownsRow W.heap.size 24 2 v (namL ps x.nm x.ds ps.length).length (flatD (namL ps x.nm x.ds ps.length)))∧Below W.heap.size W w':=by
  obtain ⟨i0,hi0,hz0,hz1,hz2⟩:=info_parts Tryz.hinfoD
  have HTW:Hid (TwW cs ps):=ht
  have HW0:Hid (RAt b cs W):=h
  obtain ⟨K,hK⟩:∃ K,cs.length=K:=⟨_,rfl⟩
  have hKp:ps.length=K:=by
    rw [← hK]
    have:=congrArg List.length ht.tw
    simpa using this.symm
  have hKb:K≤300:=by rw [← hKp];exact ht.wi.hi
  have HM:Hid (∀ w,Below W.heap.size W w→Calls Tryz.prog 143 #[.pointer (some ⟨b,0,none⟩),.agg #[.int .i64 c,.int .i64 i]] w fun e w'=>(∃ a n s,e=.returned (.agg #[.string x.nm,.string x.ds,.int .i64 x.fl,.int .i64 x.lo,.int .i64 x.st,.slice a n s]))∧Below w.heap.size w w'):=fun w hb=>r9meth_c (h.below hb) ht c i x hx
  have HHD:Hid (∀ w,RAt b cs w→∃ a cap,w.cell? ⟨b,0,none⟩=some (.slice a K cap)):=fun w hw=>by rw [← hK];exact hw.head
  have HFA:Hid (∀ (k:Nat) w,RAt b cs w→Calls Tryz.prog 118 #[.pointer (some ⟨b,0,none⟩),.int .i64 (k:Int),.string x.nm,.string x.ds] w fun e w'=>e=.returned (.tuple #[.int .i64 (fndI ps k x.nm x.ds).1,.int .i64 (fndI ps k x.nm x.ds).2])∧Below w.heap.size w w'):=fun k w hw=>rFind_c hw ht k x.nm x.ds
  have HIA:Hid (∀ (k:Nat) w,RAt b cs w→Calls Tryz.prog 99 #[.pointer (some ⟨b,0,none⟩),.int .i64 (k:Int)] w fun e w'=>e=.returned (.bool (ifcI ps k))∧w'=w):=fun k w hw=>(rIsIface_c hw k).mono fun e w' zz=>⟨by rw [zz.1,ifcC_eq ht],zz.2⟩
  rw [hKp]
  obtain ⟨NL,hNL⟩:∃ NL:Nat→List (Int×Int),NL=namL ps x.nm x.ds:=⟨_,rfl⟩
  have HN1:Hid (∀ k,NL (k+1)=NL k++if (fndI ps (k:Int) x.nm x.ds).2=0∧ifcI ps (k:Int)=false then [((k:Int),(fndI ps (k:Int) x.nm x.ds).1)] else []):=fun k=>by rw [hNL];rfl
  have HNL:Hid (∀ k,(NL k).length≤k):=fun k=>by rw [hNL];exact namL_len _ _ _ k
  have HN0:Hid (NL 0=[]):=by rw [hNL];rfl
  rw [← hNL]
  generalize x.nm=nm at *
  generalize x.ds=ds at *
  clear h ht hx hK hKp hNL
  have BB:Hid (Below W.heap.size W W):=Below.refl _ _
  go_enter Tryz.func152,Tryz.ntmps152
  go_wp2_with (first
    | (go_at_call 143;refine (HM.out _ ((Below.refl _ _).alloc (Nat.le_refl _) _)).mono ?_;rintro e w0 ⟨⟨xa,xk,xo,rfl⟩,hb⟩;have B0:Hid (Below W.heap.size W w0):=bstep ((Below.refl _ _).alloc (Nat.le_refl _) _) hb;clear hb HM))
  obtain ⟨w1,hw1⟩:∃ w1,w1=w0.alloc (.cells #[.string nm,.string ds,.int .i64 x.fl,.int .i64 x.lo,.int .i64 x.st,.slice xa xk xo] 81):=⟨_,rfl⟩
  have B1:Hid (Below W.heap.size W w1):=by rw [hw1];exact B0.out.alloc B0.out.size _
  have HX1:Hid (w1.heap[w0.heap.size]?=some (.cells #[.string nm,.string ds,.int .i64 x.fl,.int .i64 x.lo,.int .i64 x.st,.slice xa xk xo] 81 (0,0))):=by rw [hw1];exact halloc1 _ _
  have hxl:w0.heap.size<w1.heap.size:=by rw [hw1];simp
  rw [← hw1]
  have HW1:Hid (RAt b cs w1):=HW0.out.below B1.out
  clear hw1 BB
  go_loopw [6,7] (fun sv kv wr=>∃ (j:Nat),kv=.int .i64 j∧j≤K∧Hid (wr.ownsRow w1.heap.size 24 2 sv (NL j).length (flatD (NL j)))∧Hid (Below w1.heap.size w1 wr)) (fun _ kv _=>K - (intOf kv).toNat)
  case atStart=>exact ⟨0,rfl,Nat.zero_le _,by rw [HN0.out];exact World.ownsRow_nil _ _ _ _,Below.refl _ _⟩
  case round =>
    obtain ⟨j,rfl,hj,hO,hB⟩:=hrel
    have HRr:Hid (RAt b cs wr):=HW1.out.below hB.out
    obtain ⟨ha,hcap,hd⟩:=HHD.out wr HRr.out
    obtain ⟨x0,x1,x2,x3,x4,x5,xf,xL⟩:=rw6 ((hB.out.block w0.heap.size hxl).trans HX1.out)
    obtain ⟨va,vn,rfl⟩:=ownv hO.out
    by_cases hlt:j<K
    · have hjI:(j:Int)<(K:Int):=by omega
      have hst:=HN1.out j
      have hal:(NL j).length≤300:=by have:=HNL.out j;omega
      have HF:Hid (Calls Tryz.prog 118 #[.pointer (some ⟨b,0,none⟩),.int .i64 (j:Int),.string nm,.string ds] wr fun e w'=>e=.returned (.tuple #[.int .i64 (fndI ps j nm ds).1,.int .i64 (fndI ps j nm ds).2])∧Below wr.heap.size wr w'):=HFA.out j wr HRr.out
      have HI:Hid (∀ w,RAt b cs w→Calls Tryz.prog 99 #[.pointer (some ⟨b,0,none⟩),.int .i64 (j:Int)] w fun e w'=>e=.returned (.bool (ifcI ps j))∧w'=w):=fun w hw=>HIA.out j w hw
      have HST:Hid _:=hst
      generalize fndI ps (j:Int) nm ds=F at *
      obtain ⟨F1,F2⟩:=F
      simp only at HF HST
      generalize ifcI ps (j:Int)=S at *
      obtain ⟨L,hL⟩:∃ L,NL j=L:=⟨_,rfl⟩
      rw [hL] at HST hal hO
      rw [hL]
      clear hst hL HFA HIA HN1 HNL HN0
      by_cases hF:F2=0
      · subst hF
        cases S
        case true =>
          have hst2:NL (j+1)=L:=by rw [HST.out,if_neg (by simp)];simp
          clear HST
          go_wp2_with (first
            | (go_at_call 118;refine HF.out.mono ?_;rintro e w2 ⟨rfl,hb⟩;have B2:Hid (Below w1.heap.size w1 w2):=bstep hB.out hb;have O2:Hid (w2.ownsRow w1.heap.size 24 2 (.slice va L.length vn) L.length (flatD L)):=rowBelow hO.out hb;have HR2:Hid (RAt b cs w2):=HRr.out.below hb;clear hb HF)
            | (go_at_call 99;refine (HI.out _ HR2.out).mono ?_;rintro e w9 ⟨rfl,hw9⟩;rw [hw9];clear hw9 w9))
          go_roundw
          case rel=>exact ⟨j+1,by go_num,by omega,by rw [hst2];exact O2,B2⟩
          case measure=>simp [intOf];omega
        case false =>
          have hst2:NL (j+1)=L++[((j:Int),F1)]:=by rw [HST.out,if_pos (by simp)]
          clear HST
          go_wp2_with (first
            | (go_at_call 118;refine HF.out.mono ?_;rintro e w2 ⟨rfl,hb⟩;have B2:Hid (Below w1.heap.size w1 w2):=bstep hB.out hb;have O2:Hid (w2.ownsRow w1.heap.size 24 2 (.slice va L.length vn) L.length (flatD L)):=rowBelow hO.out hb;have HR2:Hid (RAt b cs w2):=HRr.out.below hb;clear hb HF)
            | (go_at_call 99;refine (HI.out _ HR2.out).mono ?_;rintro e w9 ⟨rfl,hw9⟩;rw [hw9];clear hw9 w9)
            | (at_builtin;refine wpList_append_own _ rfl _ _ 39 rfl w1.heap.size 24 i0 (.agg #[.int .i64 0,.int .i64 0]) 2 16 Tryz.underlying39 hi0 hz0 hz1 hz2 rfl (by decide) (.slice va L.length vn) L.length (flatD L) rfl (O2.out.alloc _) ⟨w2.heap.size,0,none⟩ 1 1 [.int .i64 (j:Int),.int .i64 F1] rfl rfl ?c1 ?c2 ?c3 ?c4 ?c5 ?_))
          case c1=>intro jj u hj;rw [addr_add];match jj,hj with
            | 0,hj=>simp at hj;subst hj;simp [go_sem]
            | 1,hj=>simp at hj;subst hj;simp [go_sem]
            | (jj+2),hj=>simp at hj
          case c2=>intro u hu;simp at hu;rcases hu with rfl|rfl <;> rfl
          case c3=>unfold maxLen;omega
          case c4=>omega
          case c5=>have:=B2.out.size;simp;omega
          intro v' w4 hown hgrow _
          obtain ⟨va2,vn2,rfl⟩:=ownv hown
          have B4:Hid (Below w1.heap.size w1 w4):=by
            have hb1:Below w1.heap.size w1 (w2.alloc (.cells #[.int .i64 (j:Int),.int .i64 F1] 24)):=B2.out.alloc B2.out.size _
            refine hb1.grown hgrow hb1.size (fun x hx=>?_)
            have:=(O2.out.lt x hx).1
            omega
          have O4:Hid (w4.ownsRow w1.heap.size 24 2 (.slice va2 (L.length+1) vn2) (L++[((j:Int),F1)]).length (flatD (L++[((j:Int),F1)]))):=by
            rw [Hid,List.length_append,flatD_app];exact hown
          go_wp2
          go_roundw
          case rel=>exact ⟨j+1,by go_num,by omega,by rw [hst2];exact O4,B4⟩
          case measure=>simp [intOf];omega
      · have hst2:NL (j+1)=L:=by rw [HST.out,if_neg (fun h=>hF h.1)];simp
        clear HST
        go_wp2_with (first
          | (go_at_call 118;refine HF.out.mono ?_;rintro e w2 ⟨rfl,hb⟩;have B2:Hid (Below w1.heap.size w1 w2):=bstep hB.out hb;have O2:Hid (w2.ownsRow w1.heap.size 24 2 (.slice va L.length vn) L.length (flatD L)):=rowBelow hO.out hb;clear hb HF))
        go_roundw
        case rel=>exact ⟨j+1,by go_num,by omega,by rw [hst2];exact O2,B2⟩
        case measure=>simp [intOf];omega
    · have e:j=K:=by omega
      subst e
      go_wp2
      exact bodyPost_ret (results_tmp rfl _ _ _) rfl ⟨⟨_,rfl,Go.Joins.ownsRow_le hO.out B1.out.size⟩,B1.out.trans (hB.out.mono B1.out.size)⟩
def gK (ps:List Plc) (nm ds:ByteArray) (k:Nat):Int×Int:=((k:Int),(fndI ps (k:Int) nm ds).1)
def namK (ps:List Plc) (nm ds:ByteArray):Nat→List Nat
  | 0=>[]
  | k+1=>namK ps nm ds k++if (fndI ps (k:Int) nm ds).2=0∧ifcI ps (k:Int)=false then [k] else []
theorem namL_map (ps:List Plc) (nm ds:ByteArray):∀ n,namL ps nm ds n=(namK ps nm ds n).map (gK ps nm ds)
  | 0=>rfl
  | k+1=>by
    rw [namL,namK,List.map_append,namL_map ps nm ds k]
    congr 1
    split <;> rfl
theorem namK_mem {ps:List Plc} {nm ds:ByteArray}:∀ {n k:Nat},k∈namK ps nm ds n↔k<n∧(fndI ps (k:Int) nm ds).2=0∧ifcI ps (k:Int)=false
  | 0,k=>by simp [namK]
  | n+1,k=>by
    rw [namK,List.mem_append,namK_mem (n:=n)]
    constructor
    · rintro (⟨h1,h2⟩|h)
      · exact ⟨by omega,h2⟩
      · split at h
        · rename_i hc
          rw [List.mem_singleton] at h
          subst h
          exact ⟨by omega,hc⟩
        · cases h
    · rintro ⟨h1,h2⟩
      by_cases e:k=n
      · subst e
        exact .inr (by rw [if_pos h2];exact List.mem_singleton.2 rfl)
      · exact .inl ⟨by omega,h2⟩
theorem gK_self {ps:List Plc} (hU:UnqM ps) {a:Int×Int} {ma:HM} (ha:methI ps a.1 a.2=some ma) {nm ds:ByteArray} (h1:ma.nm.toList=nm.toList) (h2:ma.ds.toList=ds.toList):∃ k,k<ps.length∧gK ps nm ds k=a∧(fndI ps (k:Int) nm ds).2=0:=by
  obtain ⟨k,q,hk,hq,_,_⟩:=meth_plc ha
  have hf:=hU.fnd ha h1 h2
  rw [hk] at hf
  exact ⟨k,(List.getElem?_eq_some_iff.1 hq).1,by rw [gK,hf];exact Prod.ext hk.symm rfl,by rw [hf]⟩
structure AllS (ps:List Plc) (a:Int×Int) (nm ds:ByteArray) (Ks:List Nat):Prop where
  nd:Ks.Nodup
  lt:∀ k∈Ks,k<ps.length
  top:∃ k∈Ks,gK ps nm ds k=a
  ov:∀ k∈Ks,Ov ps a (gK ps nm ds k)
def DoneI (ps:List Plc) (nm ds:ByteArray) (i:Nat) (Ks:List Nat):Prop:=∀ p y,p<i→Ks[p]?=some y→∀ s∈namK ps nm ds ps.length,plI ps (gK ps nm ds s) (gK ps nm ds y)=true→s∈Ks
theorem AllS.start {ps:List Plc} {a:Int×Int} {nm ds:ByteArray} {k:Nat} (hk:k<ps.length) (he:gK ps nm ds k=a) (hs:stI ps a=false):AllS ps a nm ds [k] :=
  ⟨List.nodup_cons.2 ⟨by simp,List.nodup_nil⟩,fun j hj=>by rw [List.mem_singleton] at hj;rw [hj];exact hk,⟨k,List.mem_singleton.2 rfl,he⟩,fun j hj=>by
    rw [List.mem_singleton] at hj
    rw [hj,he]
    exact ⟨0,rfl,hs⟩⟩
theorem AllS.snoc {ps:List Plc} {a:Int×Int} {nm ds:ByteArray} {Ks:List Nat} (h:AllS ps a nm ds Ks) {s y:Nat} (hs:s∈namK ps nm ds ps.length) (hn:¬ s∈Ks) (hy:y∈Ks) (hp:plI ps (gK ps nm ds s) (gK ps nm ds y)=true):AllS ps a nm ds (Ks++[s]):=by
  refine ⟨?_,fun k hk=>?_,?_,fun k hk=>?_⟩
  · rw [List.nodup_append]
    refine ⟨h.nd,List.nodup_cons.2 ⟨by simp,List.nodup_nil⟩,fun x hx z hz e=>?_⟩
    rw [List.mem_singleton] at hz
    subst hz e
    exact hn hx
  · rcases List.mem_append.1 hk with hk|hk
    · exact h.lt k hk
    · rw [List.mem_singleton] at hk
      rw [hk];exact (namK_mem.1 hs).1
  · obtain ⟨k,hk,e⟩:=h.top
    exact ⟨k,List.mem_append_left _ hk,e⟩
  · rcases List.mem_append.1 hk with hk|hk
    · exact h.ov k hk
    · rw [List.mem_singleton] at hk
      rw [hk];exact (h.ov y hy).step hp
theorem DoneI.snoc {ps:List Plc} {nm ds:ByteArray} {i:Nat} {Ks:List Nat} (h:DoneI ps nm ds i Ks) (hi:i≤Ks.length) (s:Nat):DoneI ps nm ds i (Ks++[s]):=by
  intro p y hp hy t ht hpl
  rw [List.getElem?_append_left (by omega)] at hy
  exact List.mem_append_left _ (h p y hp hy t ht hpl)
theorem AllS.all {ps:List Plc} (hW:WI ps) (hU:UnqM ps) {a:Int×Int} {ma:HM} (ha:methI ps a.1 a.2=some ma) {Ks:List Nat} (h:AllS ps a ma.nm ma.ds Ks) (hd:DoneI ps ma.nm ma.ds Ks.length Ks) (x:Int×Int):x∈Ks.map (gK ps ma.nm ma.ds)↔Ov ps a x:=by
  constructor
  · intro hx
    obtain ⟨k,hk,rfl⟩:=List.mem_map.1 hx
    exact h.ov k hk
  · rintro ⟨n,hn⟩
    induction n generalizing x with
    | zero =>
      obtain ⟨rfl,_⟩:=hn
      obtain ⟨k,hk,e⟩:=h.top
      exact List.mem_map.2 ⟨k,hk,e⟩
    | succ n ih =>
      obtain ⟨y,hy,hp⟩:=hn
      obtain ⟨ky,hky,ey⟩:=List.mem_map.1 (ih y hy)
      obtain ⟨my,hmy,n1,n2,_⟩:=ovN_facts hW ha n y hy
      obtain ⟨mx,my2,hmx,hmy2,f1,f2,_,_,_,f6,_⟩:=pl_facts hp
      rw [hmy] at hmy2
      cases hmy2
      obtain ⟨k,hk,e,e0⟩:=gK_self hU hmx (f1.trans n1) (f2.trans n2)
      obtain ⟨p,hpl,hpe⟩:=List.getElem_of_mem hky
      refine List.mem_map.2 ⟨k,hd p ky hpl (by rw [List.getElem?_eq_getElem hpl,hpe]) k (namK_mem.2 ⟨hk,e0,?_⟩) (by rw [e,ey];exact hp),e⟩
      have:(k:Int)=x.1:=by rw [← e];rfl
      rw [this];exact f6
theorem any_gK {ps:List Plc} {nm ds:ByteArray} (Ks:List Nat) (s:Nat):((Ks.map (gK ps nm ds)).any fun x=>(x.1 == (gK ps nm ds s).1)&&(x.2 == (gK ps nm ds s).2))=Ks.contains s:=by
  rw [Bool.eq_iff_iff,List.any_eq_true,List.contains_iff_mem]
  constructor
  · rintro ⟨x,hx,h⟩
    obtain ⟨k,hk,rfl⟩:=List.mem_map.1 hx
    simp only [gK,Bool.and_eq_true,beq_iff_eq] at h
    have:k=s:=by omega
    rw [← this];exact hk
  · intro h
    exact ⟨_,List.mem_map.2 ⟨s,h,rfl⟩,by simp⟩
theorem AllS.len {ps:List Plc} {a:Int×Int} {nm ds:ByteArray} {Ks:List Nat} (h:AllS ps a nm ds Ks):Ks.length≤ps.length:=nodup_lt_len _ _ h.nd h.lt
set_option maxHeartbeats 16000000 in
theorem r9all_w {b:Nat} {ps:List Plc} {W:World} (c i:Int) (x:HM) (hps:ps.length≤300) (RR:World→Prop) (HRB:Hid (∀ w w',RR w→Below w.heap.size w w'→RR w')) (HRG:Hid (∀ w,Below W.heap.size W w→RR w))
    (HST:Hid (hasI x.fl 8=false)) (kA:Nat) (HKA:Hid (kA<ps.length∧gK ps x.nm x.ds kA=(c,i)∧stI ps (c,i)=false))
    (HM:Hid (∀ w,RR w→Calls Tryz.prog 143 #[.pointer (some ⟨b,0,none⟩),.agg #[.int .i64 c,.int .i64 i]] w fun e w'=>(∃ a n s,e=.returned (.agg #[.string x.nm,.string x.ds,.int .i64 x.fl,.int .i64 x.lo,.int .i64 x.st,.slice a n s]))∧Below w.heap.size w w'))
    (HN:Hid (∀ w,RR w→Calls Tryz.prog 152 #[.pointer (some ⟨b,0,none⟩),.agg #[.int .i64 c,.int .i64 i]] w fun e w'=>(∃ v,e=.returned v∧w'.ownsRow w.heap.size 24 2 v (namK ps x.nm x.ds ps.length).length (flatD ((namK ps x.nm x.ds ps.length).map (gK ps x.nm x.ds))))∧Below w.heap.size w w'))
    (HP:Hid (∀ (s y:Nat) w,s∈namK ps x.nm x.ds ps.length→Ov ps (c,i) (gK ps x.nm x.ds y)→RR w→Calls Tryz.prog 67 #[.pointer (some ⟨b,0,none⟩),.agg #[.int .i64 (gK ps x.nm x.ds s).1,.int .i64 (gK ps x.nm x.ds s).2],.agg #[.int .i64 (gK ps x.nm x.ds y).1,.int .i64 (gK ps x.nm x.ds y).2]] w fun e w'=>e=.returned (.bool (plI ps (gK ps x.nm x.ds s) (gK ps x.nm x.ds y)))∧Below w.heap.size w w')) :
    Calls Tryz.prog 73 #[.pointer (some ⟨b,0,none⟩),.agg #[.int .i64 c,.int .i64 i]] W fun e w'=>(∃ v Ks,e=.returned v∧w'.ownsRow W.heap.size 24 2 v (Ks.map (gK ps x.nm x.ds)).length (flatD (Ks.map (gK ps x.nm x.ds)))∧AllS ps (c,i) x.nm x.ds Ks∧DoneI ps x.nm x.ds Ks.length Ks)∧Below W.heap.size W w':=by
  obtain ⟨i0,hi0,hz0,hz1,hz2⟩:=info_parts Tryz.hinfoD
  have HH:Hid (∀ w:World,Calls Tryz.prog 101 #[.int .i64 x.fl,.int .i64 8] w fun e w'=>e=.returned (.bool false)∧w'=w):=fun w=>by
    have:=has_any x.fl 8 w
    rw [HST.out] at this
    exact this
  obtain ⟨G,hG⟩:∃ G:Nat→Int×Int,G=gK ps x.nm x.ds:=⟨_,rfl⟩
  have HGA:Hid (∀ (Ks:List Nat) (s:Nat),((Ks.map G).any fun y=>(y.1 == (G s).1)&&(y.2 == (G s).2))=Ks.contains s):=fun Ks s=>by rw [hG];exact any_gK Ks s
  have HGE:Hid (G=gK ps x.nm x.ds):=hG
  rw [← hG] at HN HP HKA ⊢
  obtain ⟨S,hS⟩:∃ S,S=namK ps x.nm x.ds ps.length:=⟨_,rfl⟩
  have HSE:Hid (S=namK ps x.nm x.ds ps.length):=hS
  rw [← hS] at HN HP
  have hSl:S.length≤300:=by
    have:=namL_len ps x.nm x.ds ps.length
    rw [namL_map,List.length_map,← hS] at this
    omega
  obtain ⟨T,hT⟩:∃ T,S.length=T:=⟨_,rfl⟩
  have HTL:Hid (S.length=T):=hT
  rw [hT] at HN hSl
  clear hG hS hT
  have FLD:∀ (a:Option Addr) (n m:Nat) (w:World),(Instr.field 81 (.agg #[.string x.nm,.string x.ds,.int .i64 x.fl,.int .i64 x.lo,.int .i64 x.st,.slice a n m]) 2).run Tryz.prog w=.ok (.int .i64 x.fl) w:=fun a n m w=>by
    simp [Instr.field,run_underlying Tryz.underlying81,go_sem,part,asAgg]
  go_enter Tryz.func73,Tryz.ntmps73
  go_wp2_with (first
    | (go_at_call 143;refine (HM.out _ (HRG.out _ ((Below.refl _ _).alloc (Nat.le_refl _) _))).mono ?_;rintro e w1 ⟨⟨xa,xk,xo,rfl⟩,hb⟩;have cbd:=kp2 (n:=W.heap.size) hb (by simp) (halloc1 _ _);obtain ⟨cbB,cb0,cb1,cbf,cbL,cbN⟩:=cbd;have B1:Hid (Below W.heap.size W w1):=bstep ((Below.refl _ _).alloc (Nat.le_refl _) _) hb;clear hb HM)
    | (go_at_call 101;refine (HH.out _).mono ?_;rintro e w9 ⟨rfl,hw9⟩;rw [hw9];clear hw9 w9 HH)
    | (go_at_call 152;refine (HN.out _ (HRG.out _ (B1.out.alloc B1.out.size _))).mono ?_;rintro e w2 ⟨⟨v,rfl,ho⟩,hb⟩;obtain ⟨sa,sc,rfl⟩:=ownv ho;have OS:Hid (w2.ownsRow (w1.heap.size+1) 24 2 (.slice sa T sc) T (flatD (S.map G))):=Go.Joins.ownsRow_le ho (by simp);have LB:Hid (w2.heap[w1.heap.size]?=some (.cells #[.int .i64 c,.int .i64 i] 24 (0,0))):=(hb.block w1.heap.size (by simp)).trans (halloc1 _ _);have B2:Hid (Below w1.heap.size w1 w2):=bstep ((Below.refl _ _).alloc (Nat.le_refl _) _) hb;clear ho hb HN))
  have hLB:=LB.out
  clear LB
  go_loopw [5,7] (fun sv kv wr=>∃ (Ks:List Nat) (ii:Nat) (la:Option Addr) (lc:Nat),sv=.slice la Ks.length lc∧kv=.int .i64 ii∧ii≤Ks.length∧Ks.length≤300∧Hid (AllS ps (c,i) x.nm x.ds Ks)∧Hid (DoneI ps x.nm x.ds ii Ks)∧Hid (wr.ownsRow w1.heap.size 24 2 (.slice la Ks.length lc) Ks.length (flatD (Ks.map G)))∧Hid (Value.ownBlock (.slice sa T sc)=none∨Value.ownBlock (.slice sa T sc)≠Value.ownBlock (.slice la Ks.length lc))∧Hid (wr.ownsRow (w1.heap.size+1) 24 2 (.slice sa T sc) T (flatD (S.map G)))∧Hid (Below w1.heap.size w1 wr)) (fun _ kv _=>300 - (intOf kv).toNat)
  case atStart =>
    refine ⟨[kA],0,some ⟨w1.heap.size,0,none⟩,1,rfl,rfl,by simp,by simp,?_,?_,?_,?_,OS,B2⟩
    · have:=HKA.out;exact AllS.start this.1 (by rw [← HGE.out];exact this.2.1) this.2.2
    · intro p y hp;omega
    · refine ⟨rfl,.inr ⟨w1.heap.size,1,_,rfl,Nat.le_refl _,hLB,Nat.le_refl _,by unfold maxLen;omega,rfl,?_⟩⟩
      simp [flatD,HKA.out.2.1]
    · rcases OS.out.2 with hn|⟨g,cap,cur,hv,hg,_⟩
      · exact .inl (by rw [hn.1];rfl)
      · refine .inr ?_
        rw [hv]
        simp [Value.ownBlock]
        omega
  case round =>
    obtain ⟨Ks0,ii,la0,lc0,rfl,rfl,hii,hK30,hA0,hD0,hO0,hNE0,hOS0,hB0⟩:=hrel
    by_cases hlt:ii<Ks0.length
    · have hiiI:(ii:Int)<(Ks0.length:Int):=by omega
      obtain ⟨kx,hkx0⟩:∃ kx,Ks0[ii]?=some kx:=⟨_,List.getElem?_eq_getElem hlt⟩
      obtain ⟨wo,hwo⟩:∃ w,w=wr:=⟨_,rfl⟩
      subst hwo
      go_wp2
      go_loopw [5,8] (fun sv jv wr=>∃ (Ks:List Nat) (j:Nat) (la:Option Addr) (lc:Nat),sv=.slice la Ks.length lc∧jv=.int .i64 j∧j≤T∧Ks.length≤300∧Hid (AllS ps (c,i) x.nm x.ds Ks)∧Hid (DoneI ps x.nm x.ds ii Ks)∧Hid (Ks[ii]?=some kx)∧Hid (∀ s∈S.take j,plI ps (G s) (G kx)=true→s∈Ks)∧Hid (wr.ownsRow w1.heap.size 24 2 (.slice la Ks.length lc) Ks.length (flatD (Ks.map G)))∧Hid (Value.ownBlock (.slice sa T sc)=none∨Value.ownBlock (.slice sa T sc)≠Value.ownBlock (.slice la Ks.length lc))∧Hid (wr.ownsRow (w1.heap.size+1) 24 2 (.slice sa T sc) T (flatD (S.map G)))∧Hid (Below w1.heap.size w1 wr)) (fun _ jv _=>T - (intOf jv).toNat)
      case atStart=>exact ⟨Ks0,0,la0,lc0,rfl,rfl,Nat.zero_le _,hK30,hA0,hD0,hkx0,(fun s hs=>by cases hs),hO0,hNE0,hOS0,hB0⟩
      case round =>
        obtain ⟨Ks,j,la,lc,rfl,rfl,hj,hK3,hA,hD,hkx,hNJ,hO,hNE,hOS,hB⟩:=hrel
        have hiK:ii<Ks.length:=(List.getElem?_eq_some_iff.1 hkx.out).1
        by_cases hlj:j<T
        · have hjS:j<S.length:=by rw [HTL.out];exact hlj
          have hjI:(j:Int)<(T:Int):=by omega
          have hiiK:(ii:Int)<(Ks.length:Int):=by omega
          obtain ⟨s,hs⟩:∃ s,S[j]?=some s:=⟨_,List.getElem?_eq_getElem hjS⟩
          have hsm:s∈S:=List.mem_of_getElem? hs
          obtain ⟨gs,c2,hform⟩:=Go.Joins.ownsRow_form hOS.out (by omega)
          injection hform with hca _ hcc
          subst hca hcc
          obtain ⟨d0,d1,hgs⟩:=rowD_cells (l:=S.map G) (i:=j) (x:=G s) (by rw [List.length_map,HTL.out];exact hOS.out) (by rw [List.getElem?_map,hs];rfl)
          obtain ⟨gl,c3,hform2⟩:=Go.Joins.ownsRow_form hO.out (by omega)
          injection hform2 with hca2 _ hcc2
          subst hca2 hcc2
          obtain ⟨l0,l1,hgl⟩:=rowD_cells (l:=Ks.map G) (i:=ii) (x:=G kx) (by rw [List.length_map];exact hO.out) (by rw [List.getElem?_map,hkx.out];rfl)
          obtain ⟨σ,V,hne,V1,V2⟩:=class_of' (fun w'=>Below wr.heap.size wr w') ⟨_,Below.refl _ _⟩
          replace d0:=fun s0=>((V1.out s0).cell (p:=⟨gs,j * 2,none⟩) hgs).trans d0
          replace d1:=fun s0=>((V1.out s0).cell (p:=⟨gs,j * 2+1,none⟩) hgs).trans d1
          replace l0:=fun s0=>((V1.out s0).cell (p:=⟨gl,ii * 2,none⟩) hgl).trans l0
          replace l1:=fun s0=>((V1.out s0).cell (p:=⟨gl,ii * 2+1,none⟩) hgl).trans l1
          have HQ:Hid (∀ s0,Calls Tryz.prog 72 #[.slice (some ⟨gl,0,none⟩) Ks.length lc,.agg #[.int .i64 (G s).1,.int .i64 (G s).2]] (V s0) fun e w''=>e=.returned (.bool (Ks.contains s))∧∃ s',w''=V s'):=fun s0=>by
            have:=r9in_c (W:=V s0) (N:=w1.heap.size) (Ks.map G) (by rw [List.length_map];omega) (.slice (some ⟨gl,0,none⟩) Ks.length lc) (by rw [List.length_map];exact rowBelow hO.out (V1.out s0)) (G s).1 (G s).2
            rw [HGA.out] at this
            exact this.mono fun e w'' zz=>⟨zz.1,V2.out _ (bstep (V1.out s0) zz.2)⟩
          have hRwr:RR wr:=HRG.out _ (B1.out.trans (hB.out.mono B1.out.size))
          have HPL:Hid (∀ s0,Calls Tryz.prog 67 #[.pointer (some ⟨b,0,none⟩),.agg #[.int .i64 (G s).1,.int .i64 (G s).2],.agg #[.int .i64 (G kx).1,.int .i64 (G kx).2]] (V s0) fun e w''=>e=.returned (.bool (plI ps (G s) (G kx)))∧∃ s',w''=V s'):=fun s0=>(HP.out s kx (V s0) hsm (by rw [HGE.out];exact hA.out.ov kx (List.mem_of_getElem? hkx.out)) (HRB.out _ _ hRwr (V1.out s0))).mono fun e w'' zz=>⟨zz.1,V2.out _ (bstep (V1.out s0) zz.2)⟩
          have NXT:Hid (∀ Ks':List Nat,(∀ t∈Ks,t∈Ks')→(plI ps (G s) (G kx)=true→s∈Ks')→∀ t∈S.take (j+1),plI ps (G t) (G kx)=true→t∈Ks'):=fun Ks' h1 h2 t ht hp=>by
            rw [List.take_add_one,hs,Option.toList_some,List.mem_append] at ht
            rcases ht with ht|ht
            · exact h1 t (hNJ.out t ht hp)
            · rw [List.mem_singleton] at ht
              subst ht
              exact h2 hp
          have HIN:Hid (Ks.contains s=true→s∈Ks):=fun h=>List.contains_iff_mem.1 h
          have HNI:Hid (Ks.contains s=false→¬ s∈Ks):=fun h hm=>by
            rw [List.contains_iff_mem.2 hm] at h;cases h
          have HSN:Hid (∀ hp:plI ps (G s) (G kx)=true,¬ s∈Ks→AllS ps (c,i) x.nm x.ds (Ks++[s])∧DoneI ps x.nm x.ds ii (Ks++[s])):=fun hp hn=>by
            rw [HGE.out] at hp
            exact ⟨hA.out.snoc (by rw [← HSE.out];exact hsm) hn (List.mem_of_getElem? hkx.out) hp,hD.out.snoc (by omega) s⟩
          have HLE:Hid (Ks.length≤ps.length):=hA.out.len
          have HGS:Hid ((Ks++[s]).map G=Ks.map G++[G s]):=by rw [Hid,List.map_append];rfl
          generalize hct:Ks.contains s=ct at *
          generalize hpl:plI ps (G s) (G kx)=pl at *
          generalize hgS:G s=Gs at *
          generalize hgX:G kx=Gx at *
          obtain ⟨s1,s2⟩:=Gs
          obtain ⟨x1,x2⟩:=Gx
          simp only at d0 d1 l0 l1 HQ HPL
          clear hct hs hjS hsm hgS hgX HP hRwr
          cases ct
          case true =>
            have NX:=NXT.out Ks (fun t h=>h) (fun _=>HIN.out rfl)
            go_wp2
            refine wp_region_class (C:=fun w'=>∃ s,w'=V s) (by kernel_rfl) (by kernel_rfl) (V2.out _ ((Below.refl _ _).drew)) ?_
            repeat (go_big_quiet_step (first|(go_at_call 72;exact HQ.out _)|(go_at_call 67;exact HPL.out _)))
            refine wpQuiet_nil ?_
            intro w9 hw9
            obtain ⟨s9,hw9⟩:=hw9
            have hb9:Below wr.heap.size wr w9:=by rw [hw9];exact V1.out s9
            have q0:w9.cell? ⟨gs,j * 2,none⟩=some (.int .i64 s1):=by rw [hw9];exact d0 s9
            have q1:w9.cell? ⟨gs,j * 2+1,none⟩=some (.int .i64 s2):=by rw [hw9];exact d1 s9
            have B9:Hid (Below w1.heap.size w1 w9):=bstep hB.out hb9
            have O9:Hid (w9.ownsRow w1.heap.size 24 2 (.slice (some ⟨gl,0,none⟩) Ks.length lc) Ks.length (flatD (Ks.map G))):=rowBelow hO.out hb9
            have S9:Hid (w9.ownsRow (w1.heap.size+1) 24 2 (.slice (some ⟨gs,0,none⟩) T sc) T (flatD (S.map G))):=rowBelow hOS.out hb9
            clear hw9 hb9
            go_wp2
            go_roundw
            case rel=>exact ⟨Ks,j+1,some ⟨gl,0,none⟩,lc,rfl,by go_num,by omega,hK3,hA,hD,hkx,NX,O9,hNE,S9,B9⟩
            case measure=>simp [intOf];omega
          case false =>
            cases pl
            case false =>
              have NX:=NXT.out Ks (fun t h=>h) (fun h=>by cases h)
              go_wp2
              refine wp_region_class (C:=fun w'=>∃ s,w'=V s) (by kernel_rfl) (by kernel_rfl) (V2.out _ ((Below.refl _ _).drew)) ?_
              repeat (go_big_quiet_step (first|(go_at_call 72;exact HQ.out _)|(go_at_call 67;exact HPL.out _)))
              refine wpQuiet_nil ?_
              intro w9 hw9
              obtain ⟨s9,hw9⟩:=hw9
              have hb9:Below wr.heap.size wr w9:=by rw [hw9];exact V1.out s9
              have q0:w9.cell? ⟨gs,j * 2,none⟩=some (.int .i64 s1):=by rw [hw9];exact d0 s9
              have q1:w9.cell? ⟨gs,j * 2+1,none⟩=some (.int .i64 s2):=by rw [hw9];exact d1 s9
              have B9:Hid (Below w1.heap.size w1 w9):=bstep hB.out hb9
              have O9:Hid (w9.ownsRow w1.heap.size 24 2 (.slice (some ⟨gl,0,none⟩) Ks.length lc) Ks.length (flatD (Ks.map G))):=rowBelow hO.out hb9
              have S9:Hid (w9.ownsRow (w1.heap.size+1) 24 2 (.slice (some ⟨gs,0,none⟩) T sc) T (flatD (S.map G))):=rowBelow hOS.out hb9
              clear hw9 hb9
              go_wp2
              go_roundw
              case rel=>exact ⟨Ks,j+1,some ⟨gl,0,none⟩,lc,rfl,by go_num,by omega,hK3,hA,hD,hkx,NX,O9,hNE,S9,B9⟩
              case measure=>simp [intOf];omega
            case true =>
              obtain ⟨hA2,hD2⟩:=HSN.out rfl (HNI.out rfl)
              have NX:=NXT.out (Ks++[s]) (fun t h=>List.mem_append_left _ h) (fun _=>List.mem_append_right _ (List.mem_singleton.2 rfl))
              have hK4:Ks.length+1≤300:=by have:=hA2.len;rw [List.length_append,List.length_singleton] at this;omega
              have hkx2:(Ks++[s])[ii]?=some kx:=by rw [List.getElem?_append_left hiK];exact hkx.out
              go_wp2
              refine wp_region_class (C:=fun w'=>∃ s,w'=V s) (by kernel_rfl) (by kernel_rfl) (V2.out _ ((Below.refl _ _).drew)) ?_
              repeat (go_big_quiet_step (first|(go_at_call 72;exact HQ.out _)|(go_at_call 67;exact HPL.out _)))
              refine wpQuiet_nil ?_
              intro w9 hw9
              obtain ⟨s9,hw9⟩:=hw9
              have hb9:Below wr.heap.size wr w9:=by rw [hw9];exact V1.out s9
              have q0:w9.cell? ⟨gs,j * 2,none⟩=some (.int .i64 s1):=by rw [hw9];exact d0 s9
              have q1:w9.cell? ⟨gs,j * 2+1,none⟩=some (.int .i64 s2):=by rw [hw9];exact d1 s9
              have B9:Hid (Below w1.heap.size w1 w9):=bstep hB.out hb9
              have O9:Hid (w9.ownsRow w1.heap.size 24 2 (.slice (some ⟨gl,0,none⟩) Ks.length lc) Ks.length (flatD (Ks.map G))):=rowBelow hO.out hb9
              have S9:Hid (w9.ownsRow (w1.heap.size+1) 24 2 (.slice (some ⟨gs,0,none⟩) T sc) T (flatD (S.map G))):=rowBelow hOS.out hb9
              clear hw9 hb9
              have gsN:¬ gs=w9.heap.size:=by have:=World.block_lt_of_cell? w9 _ q0;simp only at this;omega
              go_wp2_with (first
                | (at_builtin;refine wpList_append_own_at _ rfl _ _ 39 rfl w1.heap.size 24 i0 (.agg #[.int .i64 0,.int .i64 0]) 2 16 Tryz.underlying39 hi0 hz0 hz1 hz2 rfl (by decide) (.slice (some ⟨gl,0,none⟩) Ks.length lc) Ks.length (flatD (Ks.map G)) rfl (O9.out.alloc _) ⟨w9.heap.size,0,none⟩ 1 1 [.int .i64 s1,.int .i64 s2] rfl rfl ?c1 ?c2 ?c3 ?c4 ?c5 ?_))
              case c1=>intro jj u hj;rw [addr_add];match jj,hj with
                | 0,hj=>simp at hj;subst hj;simp [go_sem]
                | 1,hj=>simp at hj;subst hj;simp [go_sem]
                | (jj+2),hj=>simp at hj
              case c2=>intro u hu;simp at hu;rcases hu with rfl|rfl <;> rfl
              case c3=>unfold maxLen;omega
              case c4=>omega
              case c5=>have:=B9.out.size;simp;omega
              intro v' w4 hown hgrow _ hblk
              obtain ⟨va2,vn2,rfl⟩:=ownv hown
              have B4:Hid (Below w1.heap.size w1 w4):=by
                have hb1:Below w1.heap.size w1 (w9.alloc (.cells #[.int .i64 s1,.int .i64 s2] 24)):=B9.out.alloc B9.out.size _
                refine hb1.grown hgrow hb1.size (fun x hx=>?_)
                have:=(O9.out.lt x hx).1
                omega
              have O4:Hid (w4.ownsRow w1.heap.size 24 2 (.slice va2 (Ks.length+1) vn2) (Ks++[s]).length (flatD ((Ks++[s]).map G))):=by
                rw [Hid,List.length_append,HGS.out,flatD_app];exact hown
              have S4:Hid (w4.ownsRow (w1.heap.size+1) 24 2 (.slice (some ⟨gs,0,none⟩) T sc) T (flatD (S.map G))):=(S9.out.alloc _).kept hgrow hNE.out
              have NE4:Hid (Value.ownBlock (.slice (some ⟨gs,0,none⟩) T sc)=none∨Value.ownBlock (.slice (some ⟨gs,0,none⟩) T sc)≠Value.ownBlock (.slice va2 (Ks.length+1) vn2)):=by
                rcases hblk with hblk|hblk
                · rw [Hid,hblk];exact hNE.out
                · rw [Hid,hblk]
                  cases hz:Value.ownBlock (.slice (some ⟨gs,0,none⟩) T sc) with
                  | none=>exact .inl rfl
                  | some z =>
                    refine .inr (fun e=>?_)
                    have:=(S9.out.lt z hz).2
                    simp at e
                    omega
              clear hown hgrow hblk
              go_wp2
              go_roundw
              case rel=>exact ⟨Ks++[s],j+1,va2,vn2,by simp,by go_num,by omega,by simpa using hK4,hA2,hD2,hkx2,NX,by simpa using O4,by simpa using NE4,S4,B4⟩
              case measure=>simp [intOf];omega
        · have e:j=T:=by omega
          subst e
          have hD3:DoneI ps x.nm x.ds (ii+1) Ks:=by
            intro p y hp hy t ht hpl
            by_cases e:p=ii
            · subst e
              rw [hkx.out] at hy
              cases hy
              have h1:=hNJ.out t (by rw [← HTL.out,List.take_length,HSE.out];exact ht)
              rw [HGE.out] at h1
              exact h1 hpl
            · exact hD.out p y (by omega) hy t ht hpl
          clear hNJ hD
          go_wp2
          go_roundw
          case rel=>exact ⟨Ks,ii+1,la,lc,rfl,by go_num,hiK,hK3,hA,hD3,hO,hNE,hOS,hB⟩
          case measure=>simp [intOf];omega
    · have e:ii=Ks0.length:=by omega
      subst e
      go_wp2
      exact bodyPost_ret (results_tmp rfl _ _ _) rfl ⟨⟨_,Ks0,rfl,by rw [List.length_map];exact Go.Joins.ownsRow_le hO0.out B1.out.size,hA0.out,hD0.out⟩,B1.out.trans (hB0.out.mono B1.out.size)⟩
theorem r9all_c {b:Nat} {cs:List Cls} {ps:List Plc} {W:World} (h:RAt b cs W) (ht:TwW cs ps) (hJ:WJ ps) (hS:SndI ps) (hU:UnqM ps) (hz:∀ c∈cs,c.nm.size≤maxLen) (c i:Int) (x:HM) (hx:methI ps c i=some x) (hst:hasI x.fl 8=false):Calls Tryz.prog 73 #[.pointer (some ⟨b,0,none⟩),.agg #[.int .i64 c,.int .i64 i]] W fun e w'=>(∃ v A,e=.returned v∧w'.ownsRow W.heap.size 24 2 v A.length (flatD A)∧A.length≤300∧(∀ y,y∈A↔Ov ps (c,i) y)∧A.Nodup)∧Below W.heap.size W w':=by
  obtain ⟨kA,hk,hg,_⟩:=gK_self hU (a:=(c,i)) hx (nm:=x.nm) (ds:=x.ds) rfl rfl
  have hs0:stI ps (c,i)=false:=by rw [stI];simp only [hx];exact hst
  refine (r9all_w (b:=b) (ps:=ps) (W:=W) c i x ht.wi.hi (RAt b cs) (fun w w' hw hb=>hw.below hb) (fun w hb=>h.below hb) hst kA ⟨hk,hg,hs0⟩ (fun w hw=>r9meth_c hw ht c i x hx) (fun w hw=>?_) (fun s y w hs ho hw=>?_)).mono fun e w' zz=>?_
  · have:=r9named_c hw ht c i x hx
    rw [namL_map,List.length_map] at this
    exact this
  · obtain ⟨_,h2,_⟩:=namK_mem.1 hs
    obtain ⟨⟨m1,hm1,_⟩,_⟩:=fnd_facts h2
    obtain ⟨n,hn⟩:=ho
    obtain ⟨m2,hm2,_⟩:=ovN_facts ht.wi (a:=(c,i)) hx n _ hn
    exact r9plain_c hw ht hJ hS hz _ _ _ _ m1 m2 hm1 hm2
  · obtain ⟨⟨v,Ks,e1,e2,e3,e4⟩,e5⟩:=zz
    refine ⟨⟨v,Ks.map (gK ps x.nm x.ds),e1,e2,?_,fun y=>AllS.all ht.wi hU (a:=(c,i)) hx e3 e4 y,?_⟩,e5⟩
    · rw [List.length_map]
      exact Nat.le_trans e3.len ht.wi.hi
    · refine List.Pairwise.map _ (fun a b hab he=>hab ?_) e3.nd
      have:=congrArg Prod.fst he
      simp only [gK] at this
      omega
end Go.Proofs.YtjlfnelihbdhjaaGreat
