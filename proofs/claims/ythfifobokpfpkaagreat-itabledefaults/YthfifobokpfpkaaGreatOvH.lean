import Derived.Test.YthfifobokpfpkaaGreatOvF
set_option maxRecDepth 100000
namespace Go.Proofs.YthfifobokpfpkaaGreat
open Go.RowKit Go.Maps
theorem any_pl {ps:List Plc} {x:P9} (hx:OkP ps x):∀ {l:List P9},(∀ y∈l,OkP ps y)→l.any (fun y=>plnB ps x.nm x.ds x.fl x.c y.nm y.ds y.fl y.c)=(l.map P9.id).any (plI ps x.id)
  | [],_=>rfl
  | y::r,h=>by
    rw [List.any_cons,List.map_cons,List.any_cons,hx.pl (h y List.mem_cons_self),any_pl hx (fun z hz=>h z (List.mem_cons_of_mem _ hz))]
structure GthR (ps:List Plc) (a:Int×Int) (L R:List P9) (k i:Nat):Prop where
  ki:k≤i
  iL:i≤L.length
  len:R.length=L.length
  suf:∀ n,i≤n→R[n]?=L[n]?
  ok:∀ y∈R,OkP ps y
  pre:(R.take k).map P9.id=gthL ps a ((L.take i).map P9.id)
theorem GthR.start {ps:List Plc} {a:Int×Int} {L:List P9} (h:∀ y∈L,OkP ps y):GthR ps a L L 0 0:=⟨Nat.le_refl _,Nat.zero_le _,rfl,fun _ _=>rfl,h,rfl⟩
theorem GthR.next {ps:List Plc} {a:Int×Int} {L R:List P9} {k i:Nat} (h:GthR ps a L R k i) {x:P9} (hx:L[i]?=some x):gthL ps a ((L.take (i+1)).map P9.id)=gth1 ps a ((R.take k).map P9.id) x.id:=by
  rw [List.take_add_one,hx,List.map_append,h.pre]
  exact gthL_snoc _ _ _ _
theorem GthR.mem {ps:List Plc} {a:Int×Int} {L R:List P9} {k i:Nat} (h:GthR ps a L R k i) {x:P9} (hx:L[i]?=some x):OkP ps x:=h.ok x (List.mem_of_getElem? ((h.suf i (Nat.le_refl _)).trans hx))
theorem GthR.keep {ps:List Plc} {a:Int×Int} {L R:List P9} {k i:Nat} (h:GthR ps a L R k i) {x:P9} (hx:L[i]?=some x) (hc:((eqI x.id a&&!stB x.fl)||(R.take k).any (fun y=>plnB ps x.nm x.ds x.fl x.c y.nm y.ds y.fl y.c))=true):GthR ps a L (R.take k++[x]++R.drop (k+1)) (k+1) (i+1):=by
  have hi:=(List.getElem?_eq_some_iff.1 hx).1
  have h1:=h.ki
  have h2:=h.len
  have hok:=h.mem hx
  have htl:(R.take k++[x]).length=k+1:=by simp;omega
  refine ⟨by omega,by omega,by simp;omega,fun n hn=>?_,fun y hy=>?_,?_⟩
  · rw [List.getElem?_append_right (by rw [htl];omega),htl,List.getElem?_drop,show k+1+(n - (k+1))=n by omega]
    exact h.suf n (by omega)
  · rcases List.mem_append.1 hy with hy|hy
    · rcases List.mem_append.1 hy with hy|hy
      · exact h.ok y (List.mem_of_mem_take hy)
      · rw [List.mem_singleton] at hy;subst hy;exact hok
    · exact h.ok y (List.mem_of_mem_drop hy)
  · rw [h.next hx,List.take_left' htl,gth1]
    rw [hok.st,any_pl hok (fun y hy=>h.ok y (List.mem_of_mem_take hy))] at hc
    rw [if_pos hc,List.map_append];rfl
theorem GthR.skip {ps:List Plc} {a:Int×Int} {L R:List P9} {k i:Nat} (h:GthR ps a L R k i) {x:P9} (hx:L[i]?=some x) (hc:((eqI x.id a&&!stB x.fl)||(R.take k).any (fun y=>plnB ps x.nm x.ds x.fl x.c y.nm y.ds y.fl y.c))=false):GthR ps a L R k (i+1):=by
  have hi:=(List.getElem?_eq_some_iff.1 hx).1
  have h1:=h.ki
  have hok:=h.mem hx
  refine ⟨by omega,by omega,h.len,fun n hn=>h.suf n (by omega),h.ok,?_⟩
  rw [h.next hx,gth1]
  rw [hok.st,any_pl hok (fun y hy=>h.ok y (List.mem_of_mem_take hy))] at hc
  rw [if_neg (by rw [hc];decide)]
theorem callPl (vs:Array Value) (w:World):(callFunc 147 vs).run Tryz.prog w=.ok (.enter 147 vs) w:=by simp [go_sem]
set_option maxHeartbeats 8000000 in
theorem gth_c {b:Nat} {ps:List Plc} {W:World} (h:WAt b ps W) (hi:WI ps) (x:P9) (hx:OkP ps x) (v:Value) (l:List Nat) (hv:Rds W v l.length 1 (l.map numV)) (hn:l.length≤300) :
    Calls Tryz.prog 84 #[x.agg b,v] W fun e w'=>∃ (L:List P9) (g cap:Nat),e=.returned (.slice (some ⟨g,0,none⟩) L.length cap)∧(∀ y∈L,OkP ps y)∧L.map P9.id=gthL ps x.id (x.id::nskL ps x.nm x.ds x.c l)∧w'.ownsRow W.heap.size 119 9 (.slice (some ⟨g,0,none⟩) L.length cap) L.length (flat9 b L)∧Below W.heap.size W w':=by
  obtain ⟨i0,hi0,hz0,hz1,hz2⟩:=info_parts Tryz.hinfoP9
  have HNS:Hid (∀ w,Below W.heap.size W w→Calls Tryz.prog 145 #[x.agg b,v] w fun e w'=>∃ (L:List P9) (g cap:Nat),e=.returned (.slice (some ⟨g,0,none⟩) L.length cap)∧(∀ y∈L,OkP ps y)∧L.map P9.id=x.id::nskL ps x.nm x.ds x.c l∧w'.ownsRow w.heap.size 119 9 (.slice (some ⟨g,0,none⟩) L.length cap) L.length (flat9 b L)∧Below w.heap.size w w'):=fun w hb=>nsk_c (h.below hb) hi x hx v l (hv.keep hb) hn
  have hll:(x.id::nskL ps x.nm x.ds x.c l).length≤301:=by
    have:=nskL_len ps x.nm x.ds x.c l
    rw [List.length_cons];omega
  generalize x.id::nskL ps x.nm x.ds x.c l=I at *
  obtain ⟨va,vc,rfl⟩:=hv.slice
  obtain ⟨an,ad,af,al,az,aa,ak,ao,ac,ai⟩:=x
  simp only [P9.agg,P9.id] at HNS ⊢
  have HU:Hid (WAt b ps (W.alloc (.cells #[.string an,.string ad,.int .i64 af,.int .i64 al,.int .i64 az,.slice aa ak ao,.int .i64 ac,.int .i64 ai,.pointer (some ⟨b,0,none⟩)] 119))):=h.below ((Below.refl _ _).alloc (Nat.le_refl _) _)
  have HA9:Hid ((W.alloc (.cells #[.string an,.string ad,.int .i64 af,.int .i64 al,.int .i64 az,.slice aa ak ao,.int .i64 ac,.int .i64 ai,.pointer (some ⟨b,0,none⟩)] 119)).heap[W.heap.size]?=some (.cells #[.string an,.string ad,.int .i64 af,.int .i64 al,.int .i64 az,.slice aa ak ao,.int .i64 ac,.int .i64 ai,.pointer (some ⟨b,0,none⟩)] 119 (0,0))):=halloc1 _ _
  have HI:Hid (WI ps):=hi
  clear hv h hi hx
  go_enter Tryz.func84,Tryz.ntmps84
  go_wp2_with (go_at_call 145;refine (HNS.out _ (by repeat (first|exact Below.refl _ _|refine Below.setCell ?_ (by simp;try omega) _|refine Below.alloc ?_ (by simp;try omega) _|refine Below.drew ?_))).mono ?_;rintro e w1 ⟨L,g,cap,rfl,hok,hid,ho,hb⟩;have OK1:Hid (∀ y∈L,OkP ps y):=hok;have ID1:Hid (L.map P9.id=I):=hid;have O1:Hid (w1.ownsRow (W.heap.size+1) 119 9 (.slice (some ⟨g,0,none⟩) L.length cap) L.length (flat9 b L)):=Go.Joins.ownsRow_le ho (by simp);have B1:Hid (Below (W.heap.size+1) (W.alloc (.cells #[.string an,.string ad,.int .i64 af,.int .i64 al,.int .i64 az,.slice aa ak ao,.int .i64 ac,.int .i64 ai,.pointer (some ⟨b,0,none⟩)] 119)) w1):=Below.mono hb (by simp);clear ho hb hok hid HNS)
  have hll2:L.length≤301:=by rw [← ID1.out,List.length_map] at hll;exact hll
  obtain ⟨K,hK⟩:∃ K,L.length=K:=⟨_,rfl⟩
  have HK:Hid (L.length=K):=hK
  rw [hK] at O1 hll2
  rw [hK]
  have hgN:W.heap.size+1≤g:=(O1.out.lt g rfl).1
  have hKc:K≤cap:=by
    rcases O1.out.2 with ⟨e,_⟩|⟨g',cap',cur,e,_,_,h3,_⟩
    · simp at e
    · simp only [Value.slice.injEq,Option.some.injEq,Addr.mk.injEq,and_true,true_and] at e
      obtain ⟨rfl,rfl⟩:=e
      exact h3
  clear hK hll
  go_wp2
  go_loopw [6,16] (fun sv kv wr=>∃ (i k:Nat) (R:List P9),sv=.slice (some ⟨g,0,none⟩) k cap∧kv=.int .i64 i∧k≤i∧i≤K∧Hid (GthR ps (ac,ai) L R k i)∧Hid (wr.ownsRow (W.heap.size+1) 119 9 (.slice (some ⟨g,0,none⟩) K cap) K (flat9 b R))∧Hid (Below (W.heap.size+1) (W.alloc (.cells #[.string an,.string ad,.int .i64 af,.int .i64 al,.int .i64 az,.slice aa ak ao,.int .i64 ac,.int .i64 ai,.pointer (some ⟨b,0,none⟩)] 119)) wr)) (fun _ kv _=>K - (intOf kv).toNat)
  case atStart=>exact ⟨0,0,L,rfl,rfl,Nat.le_refl _,Nat.zero_le _,GthR.start OK1.out,O1,B1⟩
  case round =>
    obtain ⟨i,k,R,rfl,rfl,hki,hiK,hG,hO,hB⟩:=hrel
    have hNr:W.heap.size+1≤wr.heap.size:=by have:=hB.out.size;simpa using this
    by_cases hlt:i<K
    · obtain ⟨x,hx⟩:∃ x,L[i]?=some x:=⟨_,List.getElem?_eq_getElem (by rw [HK.out];exact hlt)⟩
      obtain ⟨e0,e1,e2,e3,e4,e5,e6,e7,e8,_⟩:=row9_cells hO.out ((hG.out.suf i (Nat.le_refl _)).trans hx)
      obtain ⟨q0,q1,q2,q3,q4,q5,q6,q7,q8,qL⟩:=row9 ((hB.out.block W.heap.size (by omega)).trans HA9.out)
      have hRK:R.length=K:=hG.out.len.trans HK.out
      have HKE:Hid (((eqI x.id (ac,ai)&&!stB x.fl)||(R.take k).any (fun y=>plnB ps x.nm x.ds x.fl x.c y.nm y.ds y.fl y.c))=true→GthR ps (ac,ai) L (R.take k++[x]++R.drop (k+1)) (k+1) (i+1)):=hG.out.keep hx
      have HSK:Hid (((eqI x.id (ac,ai)&&!stB x.fl)||(R.take k).any (fun y=>plnB ps x.nm x.ds x.fl x.c y.nm y.ds y.fl y.c))=false→GthR ps (ac,ai) L R k (i+1)):=hG.out.skip hx
      have HC9:Hid (∀ w,Below wr.heap.size wr w→Calls Tryz.prog 87 #[.slice (some ⟨g,0,none⟩) k cap,.func (.func 147) #[x.agg b] #[]] w fun e w'=>e=.returned (.bool ((R.take k).any (fun y=>plnB ps x.nm x.ds x.fl x.c y.nm y.ds y.fl y.c)))∧Below w.heap.size w w'):=fun w hb=>by
        have hcut:=row_cut (rowBelow hO.out hb) (show k≤K by omega)
        rw [flat9_take] at hcut
        have hkl:(R.take k).length=k:=by rw [List.length_take];omega
        have:=con9_any 147 callPl (x.agg b) (fun y=>plnB ps x.nm x.ds x.fl x.c y.nm y.ds y.fl y.c) (W.heap.size+1) b (R.take k) (.slice (some ⟨g,0,none⟩) k cap) w (by rw [hkl];exact hcut) (by rw [hkl];omega) (fun y _ w2 hb2=>plain_c (HU.out.below (by have:=(hB.out.trans (hb.mono hNr)).trans (hb2.mono (Nat.le_trans hNr hb.size));simpa using this)) HI.out x.nm x.ds x.fl x.lo x.st x.sa x.sk x.so x.c x.i y.nm y.ds y.fl y.lo y.st y.sa y.sk y.so y.c y.i)
        exact this
      have HI9:Hid (∀ w:World,Calls Tryz.prog 88 #[x.agg b,.agg #[.string an,.string ad,.int .i64 af,.int .i64 al,.int .i64 az,.slice aa ak ao,.int .i64 ac,.int .i64 ai,.pointer (some ⟨b,0,none⟩)]] w fun e w'=>e=.returned (.bool (eqI x.id (ac,ai)))∧Below w.heap.size w w'):=fun w=>is_c b x.nm x.ds x.fl x.lo x.st x.sa x.sk x.so x.c x.i an ad af al az aa ak ao ac ai w
      have HS9:Hid (∀ w:World,Calls Tryz.prog 146 #[x.agg b] w fun e w'=>e=.returned (.bool (stB x.fl))∧Below w.heap.size w w'):=fun w=>isStatic_c b x.nm x.ds x.fl x.lo x.st x.sa x.sk x.so x.c x.i w
      generalize eqI x.id (ac,ai)=E at *
      generalize (R.take k).any (fun y=>plnB ps x.nm x.ds x.fl x.c y.nm y.ds y.fl y.c)=Q at *
      obtain ⟨xn,xd,xf,xl,xs,xa,xk,xo,xc,xi⟩:=x
      simp only [P9.agg] at e0 e1 e2 e3 e4 e5 e6 e7 e8 HC9 HI9 HS9 HKE HSK
      generalize stB xf=S at *
      have HX9:Hid ((wr.alloc (.cells #[.string xn,.string xd,.int .i64 xf,.int .i64 xl,.int .i64 xs,.slice xa xk xo,.int .i64 xc,.int .i64 xi,.pointer (some ⟨b,0,none⟩)] 119)).heap[wr.heap.size]?=some (.cells #[.string xn,.string xd,.int .i64 xf,.int .i64 xl,.int .i64 xs,.slice xa xk xo,.int .i64 xc,.int .i64 xi,.pointer (some ⟨b,0,none⟩)] 119 (0,0))):=halloc1 _ _
      clear hx
      cases E
      case false =>
        clear HS9
        cases Q
        case false =>
          go_wp2_with (first
            | (go_at_call 88;refine (HI9.out _).mono ?_;rintro e w2 ⟨rfl,hb⟩;have Bw2:Hid (Below (wr.heap.size+1) (wr.alloc (.cells #[.string xn,.string xd,.int .i64 xf,.int .i64 xl,.int .i64 xs,.slice xa xk xo,.int .i64 xc,.int .i64 xi,.pointer (some ⟨b,0,none⟩)] 119)) w2):=Below.mono hb (by simp);have Ow2:Hid (w2.ownsRow (W.heap.size+1) 119 9 (.slice (some ⟨g,0,none⟩) K cap) K (flat9 b R)):=rowBelow (hO.out.alloc _) hb;obtain ⟨r0,r1,r2,r3,r4,r5,r6,r7,r8,rL⟩:=row9 ((Bw2.out.block wr.heap.size (by omega)).trans HX9.out);clear hb HI9)
            | (go_at_call 87;refine (HC9.out _ (Below.trans ((Below.refl _ _).alloc (Nat.le_refl _) _) (Bw2.out.mono (by omega)))).mono ?_;rintro e w3 ⟨rfl,hb⟩;have Bw3:Hid (Below (wr.heap.size+1) (wr.alloc (.cells #[.string xn,.string xd,.int .i64 xf,.int .i64 xl,.int .i64 xs,.slice xa xk xo,.int .i64 xc,.int .i64 xi,.pointer (some ⟨b,0,none⟩)] 119)) w3):=Bw2.out.trans (hb.mono (Nat.le_trans (by simp) Bw2.out.size));have Ow3:Hid (w3.ownsRow (W.heap.size+1) 119 9 (.slice (some ⟨g,0,none⟩) K cap) K (flat9 b R)):=rowBelow Ow2.out hb;clear r0 r1 r2 r3 r4 r5 r6 r7 r8 rL;obtain ⟨r0,r1,r2,r3,r4,r5,r6,r7,r8,rL⟩:=row9 ((Bw3.out.block wr.heap.size (by omega)).trans HX9.out);clear hb))
          have hsz:wr.heap.size+1≤w3.heap.size:=by have:=Bw3.out.size;simpa using this
          have B8:Hid (Below (W.heap.size+1) (W.alloc (.cells #[.string an,.string ad,.int .i64 af,.int .i64 al,.int .i64 az,.slice aa ak ao,.int .i64 ac,.int .i64 ai,.pointer (some ⟨b,0,none⟩)] 119)) w3):=(hB.out.alloc hNr _).trans (Bw3.out.mono (by omega))
          refine ⟨⟨i+1,k,R,rfl,by simp,by omega,by omega,HSK.out rfl,Ow3,B8⟩,by simp [intOf];omega⟩
        case true =>
          go_wp2_with (first
            | (go_at_call 88;refine (HI9.out _).mono ?_;rintro e w2 ⟨rfl,hb⟩;have Bw2:Hid (Below (wr.heap.size+1) (wr.alloc (.cells #[.string xn,.string xd,.int .i64 xf,.int .i64 xl,.int .i64 xs,.slice xa xk xo,.int .i64 xc,.int .i64 xi,.pointer (some ⟨b,0,none⟩)] 119)) w2):=Below.mono hb (by simp);have Ow2:Hid (w2.ownsRow (W.heap.size+1) 119 9 (.slice (some ⟨g,0,none⟩) K cap) K (flat9 b R)):=rowBelow (hO.out.alloc _) hb;obtain ⟨r0,r1,r2,r3,r4,r5,r6,r7,r8,rL⟩:=row9 ((Bw2.out.block wr.heap.size (by omega)).trans HX9.out);clear hb HI9)
            | (go_at_call 87;refine (HC9.out _ (Below.trans ((Below.refl _ _).alloc (Nat.le_refl _) _) (Bw2.out.mono (by omega)))).mono ?_;rintro e w3 ⟨rfl,hb⟩;have Bw3:Hid (Below (wr.heap.size+1) (wr.alloc (.cells #[.string xn,.string xd,.int .i64 xf,.int .i64 xl,.int .i64 xs,.slice xa xk xo,.int .i64 xc,.int .i64 xi,.pointer (some ⟨b,0,none⟩)] 119)) w3):=Bw2.out.trans (hb.mono (Nat.le_trans (by simp) Bw2.out.size));have Ow3:Hid (w3.ownsRow (W.heap.size+1) 119 9 (.slice (some ⟨g,0,none⟩) K cap) K (flat9 b R)):=rowBelow Ow2.out hb;clear r0 r1 r2 r3 r4 r5 r6 r7 r8 rL;obtain ⟨r0,r1,r2,r3,r4,r5,r6,r7,r8,rL⟩:=row9 ((Bw3.out.block wr.heap.size (by omega)).trans HX9.out);clear hb)
            | (at_builtin;refine wpList_append_over _ rfl _ _ 122 rfl (W.heap.size+1) 119 i0 9 Tryz.underlying122 hi0 hz1 g k K cap (flat9 b R) rfl (Ow3.out.alloc _) ⟨w3.heap.size,0,none⟩ 1 1 (P9.cells b ⟨xn,xd,xf,xl,xs,xa,xk,xo,xc,xi⟩) rfl rfl ?c1 ?c2 (by omega) ?_))
          case c1 =>
            intro jj u hj
            rw [addr_add,Nat.zero_add]
            have hd:(w3.alloc (.cells #[.string xn,.string xd,.int .i64 xf,.int .i64 xl,.int .i64 xs,.slice xa xk xo,.int .i64 xc,.int .i64 xi,.pointer (some ⟨b,0,none⟩)] 119)).heap[w3.heap.size]?=some (.cells #[.string xn,.string xd,.int .i64 xf,.int .i64 xl,.int .i64 xs,.slice xa xk xo,.int .i64 xc,.int .i64 xi,.pointer (some ⟨b,0,none⟩)] 119 (0,0)):=halloc1 _ _
            rw [cell_of_row _ _ jj _ _ _ hd,← hj]
            simp only [P9.cells,List.getElem?_toArray]
          case c2=>intro u hu;exact flat9_one b [⟨xn,xd,xf,xl,xs,xa,xk,xo,xc,xi⟩] u (by rw [flat9_cons];exact List.mem_append_left _ hu)
          intro w8 hown hgrow
          have hGK:=hG.out.len
          have O8:Hid (w8.ownsRow (W.heap.size+1) 119 9 (.slice (some ⟨g,0,none⟩) K cap) K (flat9 b (R.take k++[(⟨xn,xd,xf,xl,xs,xa,xk,xo,xc,xi⟩:P9)]++R.drop (k+1)))):=by
            rw [Hid,flat9_app,flat9_app,← flat9_take,← flat9_drop]
            have e:flat9 b [(⟨xn,xd,xf,xl,xs,xa,xk,xo,xc,xi⟩:P9)]=P9.cells b ⟨xn,xd,xf,xl,xs,xa,xk,xo,xc,xi⟩:=by rw [flat9_cons];exact List.append_nil _
            rw [e,List.append_assoc];exact hown
          have hsz:wr.heap.size+1≤w3.heap.size:=by have:=Bw3.out.size;simpa using this
          have B8:Hid (Below (W.heap.size+1) (W.alloc (.cells #[.string an,.string ad,.int .i64 af,.int .i64 al,.int .i64 az,.slice aa ak ao,.int .i64 ac,.int .i64 ai,.pointer (some ⟨b,0,none⟩)] 119)) w8):=by
            have hb1:Below (W.heap.size+1) (W.alloc (.cells #[.string an,.string ad,.int .i64 af,.int .i64 al,.int .i64 az,.slice aa ak ao,.int .i64 ac,.int .i64 ai,.pointer (some ⟨b,0,none⟩)] 119)) (w3.alloc (.cells #[.string xn,.string xd,.int .i64 xf,.int .i64 xl,.int .i64 xs,.slice xa xk xo,.int .i64 xc,.int .i64 xi,.pointer (some ⟨b,0,none⟩)] 119)):=((hB.out.alloc hNr _).trans (Bw3.out.mono (by omega))).alloc (by omega) _
            refine hb1.grown hgrow (by simp;omega) (fun x hx=>?_)
            cases hx;exact hgN
          go_wp2
          refine ⟨⟨i+1,k+1,R.take k++[(⟨xn,xd,xf,xl,xs,xa,xk,xo,xc,xi⟩:P9)]++R.drop (k+1),rfl,by simp,by omega,by omega,HKE.out rfl,O8,B8⟩,by simp [intOf];omega⟩
      case true =>
        cases S
        case false =>
          clear HC9
          go_wp2_with (first
            | (go_at_call 88;refine (HI9.out _).mono ?_;rintro e w2 ⟨rfl,hb⟩;have Bw2:Hid (Below (wr.heap.size+1) (wr.alloc (.cells #[.string xn,.string xd,.int .i64 xf,.int .i64 xl,.int .i64 xs,.slice xa xk xo,.int .i64 xc,.int .i64 xi,.pointer (some ⟨b,0,none⟩)] 119)) w2):=Below.mono hb (by simp);have Ow2:Hid (w2.ownsRow (W.heap.size+1) 119 9 (.slice (some ⟨g,0,none⟩) K cap) K (flat9 b R)):=rowBelow (hO.out.alloc _) hb;obtain ⟨r0,r1,r2,r3,r4,r5,r6,r7,r8,rL⟩:=row9 ((Bw2.out.block wr.heap.size (by omega)).trans HX9.out);clear hb HI9)
            | (go_at_call 146;refine (HS9.out _).mono ?_;rintro e w3 ⟨rfl,hb⟩;have Bw3:Hid (Below (wr.heap.size+1) (wr.alloc (.cells #[.string xn,.string xd,.int .i64 xf,.int .i64 xl,.int .i64 xs,.slice xa xk xo,.int .i64 xc,.int .i64 xi,.pointer (some ⟨b,0,none⟩)] 119)) w3):=Bw2.out.trans (hb.mono (Nat.le_trans (by simp) Bw2.out.size));have Ow3:Hid (w3.ownsRow (W.heap.size+1) 119 9 (.slice (some ⟨g,0,none⟩) K cap) K (flat9 b R)):=rowBelow Ow2.out hb;clear r0 r1 r2 r3 r4 r5 r6 r7 r8 rL;obtain ⟨r0,r1,r2,r3,r4,r5,r6,r7,r8,rL⟩:=row9 ((Bw3.out.block wr.heap.size (by omega)).trans HX9.out);clear hb)
            | (at_builtin;refine wpList_append_over _ rfl _ _ 122 rfl (W.heap.size+1) 119 i0 9 Tryz.underlying122 hi0 hz1 g k K cap (flat9 b R) rfl (Ow3.out.alloc _) ⟨w3.heap.size,0,none⟩ 1 1 (P9.cells b ⟨xn,xd,xf,xl,xs,xa,xk,xo,xc,xi⟩) rfl rfl ?c1 ?c2 (by omega) ?_))
          case c1 =>
            intro jj u hj
            rw [addr_add,Nat.zero_add]
            have hd:(w3.alloc (.cells #[.string xn,.string xd,.int .i64 xf,.int .i64 xl,.int .i64 xs,.slice xa xk xo,.int .i64 xc,.int .i64 xi,.pointer (some ⟨b,0,none⟩)] 119)).heap[w3.heap.size]?=some (.cells #[.string xn,.string xd,.int .i64 xf,.int .i64 xl,.int .i64 xs,.slice xa xk xo,.int .i64 xc,.int .i64 xi,.pointer (some ⟨b,0,none⟩)] 119 (0,0)):=halloc1 _ _
            rw [cell_of_row _ _ jj _ _ _ hd,← hj]
            simp only [P9.cells,List.getElem?_toArray]
          case c2=>intro u hu;exact flat9_one b [⟨xn,xd,xf,xl,xs,xa,xk,xo,xc,xi⟩] u (by rw [flat9_cons];exact List.mem_append_left _ hu)
          intro w8 hown hgrow
          have hGK:=hG.out.len
          have O8:Hid (w8.ownsRow (W.heap.size+1) 119 9 (.slice (some ⟨g,0,none⟩) K cap) K (flat9 b (R.take k++[(⟨xn,xd,xf,xl,xs,xa,xk,xo,xc,xi⟩:P9)]++R.drop (k+1)))):=by
            rw [Hid,flat9_app,flat9_app,← flat9_take,← flat9_drop]
            have e:flat9 b [(⟨xn,xd,xf,xl,xs,xa,xk,xo,xc,xi⟩:P9)]=P9.cells b ⟨xn,xd,xf,xl,xs,xa,xk,xo,xc,xi⟩:=by rw [flat9_cons];exact List.append_nil _
            rw [e,List.append_assoc];exact hown
          have hsz:wr.heap.size+1≤w3.heap.size:=by have:=Bw3.out.size;simpa using this
          have B8:Hid (Below (W.heap.size+1) (W.alloc (.cells #[.string an,.string ad,.int .i64 af,.int .i64 al,.int .i64 az,.slice aa ak ao,.int .i64 ac,.int .i64 ai,.pointer (some ⟨b,0,none⟩)] 119)) w8):=by
            have hb1:Below (W.heap.size+1) (W.alloc (.cells #[.string an,.string ad,.int .i64 af,.int .i64 al,.int .i64 az,.slice aa ak ao,.int .i64 ac,.int .i64 ai,.pointer (some ⟨b,0,none⟩)] 119)) (w3.alloc (.cells #[.string xn,.string xd,.int .i64 xf,.int .i64 xl,.int .i64 xs,.slice xa xk xo,.int .i64 xc,.int .i64 xi,.pointer (some ⟨b,0,none⟩)] 119)):=((hB.out.alloc hNr _).trans (Bw3.out.mono (by omega))).alloc (by omega) _
            refine hb1.grown hgrow (by simp;omega) (fun x hx=>?_)
            cases hx;exact hgN
          go_wp2
          refine ⟨⟨i+1,k+1,R.take k++[(⟨xn,xd,xf,xl,xs,xa,xk,xo,xc,xi⟩:P9)]++R.drop (k+1),rfl,by simp,by omega,by omega,HKE.out rfl,O8,B8⟩,by simp [intOf];omega⟩
        case true =>
          cases Q
          case false =>
            go_wp2_with (first
              | (go_at_call 88;refine (HI9.out _).mono ?_;rintro e w2 ⟨rfl,hb⟩;have Bw2:Hid (Below (wr.heap.size+1) (wr.alloc (.cells #[.string xn,.string xd,.int .i64 xf,.int .i64 xl,.int .i64 xs,.slice xa xk xo,.int .i64 xc,.int .i64 xi,.pointer (some ⟨b,0,none⟩)] 119)) w2):=Below.mono hb (by simp);have Ow2:Hid (w2.ownsRow (W.heap.size+1) 119 9 (.slice (some ⟨g,0,none⟩) K cap) K (flat9 b R)):=rowBelow (hO.out.alloc _) hb;obtain ⟨r0,r1,r2,r3,r4,r5,r6,r7,r8,rL⟩:=row9 ((Bw2.out.block wr.heap.size (by omega)).trans HX9.out);clear hb HI9)
              | (go_at_call 146;refine (HS9.out _).mono ?_;rintro e w3 ⟨rfl,hb⟩;have Bw3:Hid (Below (wr.heap.size+1) (wr.alloc (.cells #[.string xn,.string xd,.int .i64 xf,.int .i64 xl,.int .i64 xs,.slice xa xk xo,.int .i64 xc,.int .i64 xi,.pointer (some ⟨b,0,none⟩)] 119)) w3):=Bw2.out.trans (hb.mono (Nat.le_trans (by simp) Bw2.out.size));have Ow3:Hid (w3.ownsRow (W.heap.size+1) 119 9 (.slice (some ⟨g,0,none⟩) K cap) K (flat9 b R)):=rowBelow Ow2.out hb;clear r0 r1 r2 r3 r4 r5 r6 r7 r8 rL;obtain ⟨r0,r1,r2,r3,r4,r5,r6,r7,r8,rL⟩:=row9 ((Bw3.out.block wr.heap.size (by omega)).trans HX9.out);clear hb)
              | (go_at_call 87;refine (HC9.out _ (Below.trans ((Below.refl _ _).alloc (Nat.le_refl _) _) (Bw3.out.mono (by omega)))).mono ?_;rintro e w4 ⟨rfl,hb⟩;have Bw4:Hid (Below (wr.heap.size+1) (wr.alloc (.cells #[.string xn,.string xd,.int .i64 xf,.int .i64 xl,.int .i64 xs,.slice xa xk xo,.int .i64 xc,.int .i64 xi,.pointer (some ⟨b,0,none⟩)] 119)) w4):=Bw3.out.trans (hb.mono (Nat.le_trans (by simp) Bw3.out.size));have Ow4:Hid (w4.ownsRow (W.heap.size+1) 119 9 (.slice (some ⟨g,0,none⟩) K cap) K (flat9 b R)):=rowBelow Ow3.out hb;clear r0 r1 r2 r3 r4 r5 r6 r7 r8 rL;obtain ⟨r0,r1,r2,r3,r4,r5,r6,r7,r8,rL⟩:=row9 ((Bw4.out.block wr.heap.size (by omega)).trans HX9.out);clear hb))
            have hsz:wr.heap.size+1≤w4.heap.size:=by have:=Bw4.out.size;simpa using this
            have B8:Hid (Below (W.heap.size+1) (W.alloc (.cells #[.string an,.string ad,.int .i64 af,.int .i64 al,.int .i64 az,.slice aa ak ao,.int .i64 ac,.int .i64 ai,.pointer (some ⟨b,0,none⟩)] 119)) w4):=(hB.out.alloc hNr _).trans (Bw4.out.mono (by omega))
            refine ⟨⟨i+1,k,R,rfl,by simp,by omega,by omega,HSK.out rfl,Ow4,B8⟩,by simp [intOf];omega⟩
          case true =>
            go_wp2_with (first
              | (go_at_call 88;refine (HI9.out _).mono ?_;rintro e w2 ⟨rfl,hb⟩;have Bw2:Hid (Below (wr.heap.size+1) (wr.alloc (.cells #[.string xn,.string xd,.int .i64 xf,.int .i64 xl,.int .i64 xs,.slice xa xk xo,.int .i64 xc,.int .i64 xi,.pointer (some ⟨b,0,none⟩)] 119)) w2):=Below.mono hb (by simp);have Ow2:Hid (w2.ownsRow (W.heap.size+1) 119 9 (.slice (some ⟨g,0,none⟩) K cap) K (flat9 b R)):=rowBelow (hO.out.alloc _) hb;obtain ⟨r0,r1,r2,r3,r4,r5,r6,r7,r8,rL⟩:=row9 ((Bw2.out.block wr.heap.size (by omega)).trans HX9.out);clear hb HI9)
              | (go_at_call 146;refine (HS9.out _).mono ?_;rintro e w3 ⟨rfl,hb⟩;have Bw3:Hid (Below (wr.heap.size+1) (wr.alloc (.cells #[.string xn,.string xd,.int .i64 xf,.int .i64 xl,.int .i64 xs,.slice xa xk xo,.int .i64 xc,.int .i64 xi,.pointer (some ⟨b,0,none⟩)] 119)) w3):=Bw2.out.trans (hb.mono (Nat.le_trans (by simp) Bw2.out.size));have Ow3:Hid (w3.ownsRow (W.heap.size+1) 119 9 (.slice (some ⟨g,0,none⟩) K cap) K (flat9 b R)):=rowBelow Ow2.out hb;clear r0 r1 r2 r3 r4 r5 r6 r7 r8 rL;obtain ⟨r0,r1,r2,r3,r4,r5,r6,r7,r8,rL⟩:=row9 ((Bw3.out.block wr.heap.size (by omega)).trans HX9.out);clear hb)
              | (go_at_call 87;refine (HC9.out _ (Below.trans ((Below.refl _ _).alloc (Nat.le_refl _) _) (Bw3.out.mono (by omega)))).mono ?_;rintro e w4 ⟨rfl,hb⟩;have Bw4:Hid (Below (wr.heap.size+1) (wr.alloc (.cells #[.string xn,.string xd,.int .i64 xf,.int .i64 xl,.int .i64 xs,.slice xa xk xo,.int .i64 xc,.int .i64 xi,.pointer (some ⟨b,0,none⟩)] 119)) w4):=Bw3.out.trans (hb.mono (Nat.le_trans (by simp) Bw3.out.size));have Ow4:Hid (w4.ownsRow (W.heap.size+1) 119 9 (.slice (some ⟨g,0,none⟩) K cap) K (flat9 b R)):=rowBelow Ow3.out hb;clear r0 r1 r2 r3 r4 r5 r6 r7 r8 rL;obtain ⟨r0,r1,r2,r3,r4,r5,r6,r7,r8,rL⟩:=row9 ((Bw4.out.block wr.heap.size (by omega)).trans HX9.out);clear hb)
              | (at_builtin;refine wpList_append_over _ rfl _ _ 122 rfl (W.heap.size+1) 119 i0 9 Tryz.underlying122 hi0 hz1 g k K cap (flat9 b R) rfl (Ow4.out.alloc _) ⟨w4.heap.size,0,none⟩ 1 1 (P9.cells b ⟨xn,xd,xf,xl,xs,xa,xk,xo,xc,xi⟩) rfl rfl ?c1 ?c2 (by omega) ?_))
            case c1 =>
              intro jj u hj
              rw [addr_add,Nat.zero_add]
              have hd:(w4.alloc (.cells #[.string xn,.string xd,.int .i64 xf,.int .i64 xl,.int .i64 xs,.slice xa xk xo,.int .i64 xc,.int .i64 xi,.pointer (some ⟨b,0,none⟩)] 119)).heap[w4.heap.size]?=some (.cells #[.string xn,.string xd,.int .i64 xf,.int .i64 xl,.int .i64 xs,.slice xa xk xo,.int .i64 xc,.int .i64 xi,.pointer (some ⟨b,0,none⟩)] 119 (0,0)):=halloc1 _ _
              rw [cell_of_row _ _ jj _ _ _ hd,← hj]
              simp only [P9.cells,List.getElem?_toArray]
            case c2=>intro u hu;exact flat9_one b [⟨xn,xd,xf,xl,xs,xa,xk,xo,xc,xi⟩] u (by rw [flat9_cons];exact List.mem_append_left _ hu)
            intro w8 hown hgrow
            have hGK:=hG.out.len
            have O8:Hid (w8.ownsRow (W.heap.size+1) 119 9 (.slice (some ⟨g,0,none⟩) K cap) K (flat9 b (R.take k++[(⟨xn,xd,xf,xl,xs,xa,xk,xo,xc,xi⟩:P9)]++R.drop (k+1)))):=by
              rw [Hid,flat9_app,flat9_app,← flat9_take,← flat9_drop]
              have e:flat9 b [(⟨xn,xd,xf,xl,xs,xa,xk,xo,xc,xi⟩:P9)]=P9.cells b ⟨xn,xd,xf,xl,xs,xa,xk,xo,xc,xi⟩:=by rw [flat9_cons];exact List.append_nil _
              rw [e,List.append_assoc];exact hown
            have hsz:wr.heap.size+1≤w4.heap.size:=by have:=Bw4.out.size;simpa using this
            have B8:Hid (Below (W.heap.size+1) (W.alloc (.cells #[.string an,.string ad,.int .i64 af,.int .i64 al,.int .i64 az,.slice aa ak ao,.int .i64 ac,.int .i64 ai,.pointer (some ⟨b,0,none⟩)] 119)) w8):=by
              have hb1:Below (W.heap.size+1) (W.alloc (.cells #[.string an,.string ad,.int .i64 af,.int .i64 al,.int .i64 az,.slice aa ak ao,.int .i64 ac,.int .i64 ai,.pointer (some ⟨b,0,none⟩)] 119)) (w4.alloc (.cells #[.string xn,.string xd,.int .i64 xf,.int .i64 xl,.int .i64 xs,.slice xa xk xo,.int .i64 xc,.int .i64 xi,.pointer (some ⟨b,0,none⟩)] 119)):=((hB.out.alloc hNr _).trans (Bw4.out.mono (by omega))).alloc (by omega) _
              refine hb1.grown hgrow (by simp;omega) (fun x hx=>?_)
              cases hx;exact hgN
            go_wp2
            refine ⟨⟨i+1,k+1,R.take k++[(⟨xn,xd,xf,xl,xs,xa,xk,xo,xc,xi⟩:P9)]++R.drop (k+1),rfl,by simp,by omega,by omega,HKE.out rfl,O8,B8⟩,by simp [intOf];omega⟩
    · have e:i=K:=by omega
      subst e
      have HE:Hid ((R.take k).map P9.id=gthL ps (ac,ai) I):=by
        rw [Hid,hG.out.pre,List.take_of_length_le (by rw [HK.out];exact Nat.le_refl _),ID1.out]
      have hRK:R.length=i:=hG.out.len.trans HK.out
      have hkl:(R.take k).length=k:=by rw [List.length_take];omega
      have O9:Hid (wr.ownsRow W.heap.size 119 9 (.slice (some ⟨g,0,none⟩) k cap) k (flat9 b (R.take k))):=by
        have:=row_cut hO.out hki
        rw [flat9_take] at this
        exact Go.Joins.ownsRow_le this (by omega)
      have OK9:Hid (∀ y∈R.take k,OkP ps y):=fun y hy=>hG.out.ok y (List.mem_of_mem_take hy)
      have B9:Hid (Below W.heap.size W wr):=((Below.refl _ W).alloc (Nat.le_refl _) _).trans (hB.out.mono (by omega))
      go_wp2
      refine bodyPost_ret (results_tmp rfl _ _ _) rfl ⟨R.take k,g,cap,(by rw [hkl];rfl),OK9.out,HE.out,by rw [hkl];exact O9.out,B9.out⟩
theorem row2 {w:World} {n:Nat} {t:TypeId} {a0 a1:Value} (h:w.heap[n]?=some (.cells #[a0,a1] t (0,0))):w.cell? ⟨n,0,none⟩=some a0∧w.cell? ⟨n,1,none⟩=some a1∧w.frozen? ⟨n,0,none⟩=false∧w.frozen? ⟨n,1,none⟩=false∧n<w.heap.size :=
  ⟨(cell_of_row w n 0 _ _ _ h).trans rfl,(cell_of_row w n 1 _ _ _ h).trans rfl,froz h 0,froz h 1,(Array.getElem?_eq_some_iff.1 h).1⟩
set_option maxHeartbeats 1000000 in
theorem first_no1 {b:Nat} {ps:List Plc} {W:World} (h:WAt b ps W) (hi:WI ps) (r c i:Int) (hm:methI ps c i=none):Calls Tryz.prog 22 #[.pointer (some ⟨b,0,none⟩),.int .i64 r,.agg #[.int .i64 c,.int .i64 i]] W fun e w'=>e=.returned (idE ((0,0),3))∧Below W.heap.size W w':=by
  have HR:Hid (∀ w,Below W.heap.size W w→Calls Tryz.prog 83 #[.pointer (some ⟨b,0,none⟩),.agg #[.int .i64 c,.int .i64 i]] w fun e w'=>e=.returned (.tuple #[.agg #[.string ⟨#[]⟩,.string ⟨#[]⟩,.int .i64 0,.int .i64 0,.int .i64 0,.slice none 0 0,.int .i64 0,.int .i64 0,.pointer none],.int .i64 3])∧Below w.heap.size w w'):=fun w hb=>by
    have:=read_c (h.below hb) hi c i
    rw [hm] at this
    exact this
  have HZ2:Hid (((W.alloc (.cells #[.int .i64 c,.int .i64 i] 24)).alloc (.cells #[.int .i64 0,.int .i64 0] 24)).heap[W.heap.size+1]?=some (.cells #[.int .i64 0,.int .i64 0] 24 (0,0))):=halloc2 _ _ (by simp)
  clear h hi hm
  go_enter Tryz.func22,Tryz.ntmps22
  go_wp2_with (go_at_call 83;refine (HR.out _ (by repeat (first|exact Below.refl _ _|refine Below.setCell ?_ (by simp;try omega) _|refine Below.alloc ?_ (by simp;try omega) _|refine Below.drew ?_))).mono ?_;rintro e w1 ⟨rfl,hb⟩;have Bw1:Hid (Below (W.heap.size+2) ((W.alloc (.cells #[.int .i64 c,.int .i64 i] 24)).alloc (.cells #[.int .i64 0,.int .i64 0] 24)) w1):=hb.mono (by simp);obtain ⟨z0,z1,f0,f1,zL⟩:=row2 ((Bw1.out.block (W.heap.size+1) (by omega)).trans HZ2.out);clear hb HR)
  exact bodyPost_ret (v:=idE ((0,0),3)) (by simp [results,Tryz.results22,go_sem,idE, *]) rfl ⟨rfl,(by have hbw:Below W.heap.size W w1:=(((Below.refl _ W).alloc (Nat.le_refl _) _).alloc (by simp) _).trans (Bw1.out.mono (by omega));repeat (first|refine Below.setCell ?_ (by simp;try omega) _|refine Below.alloc ?_ (by have:=hbw.size;simp;try omega) _|exact hbw))⟩
set_option maxHeartbeats 1000000 in
theorem first_no2 {b:Nat} {ps:List Plc} {W:World} (h:WAt b ps W) (hi:WI ps) (r c i:Int) (m:HM) (hm:methI ps c i=some m) (hr:plcI ps r=none):Calls Tryz.prog 22 #[.pointer (some ⟨b,0,none⟩),.int .i64 r,.agg #[.int .i64 c,.int .i64 i]] W fun e w'=>e=.returned (idE ((0,0),3))∧Below W.heap.size W w':=by
  have HR:Hid (∀ w,Below W.heap.size W w→Calls Tryz.prog 83 #[.pointer (some ⟨b,0,none⟩),.agg #[.int .i64 c,.int .i64 i]] w fun e w'=>(∃ ma mk mo,e=.returned (.tuple #[.agg #[.string m.nm,.string m.ds,.int .i64 m.fl,.int .i64 m.lo,.int .i64 m.st,.slice ma mk mo,.int .i64 c,.int .i64 i,.pointer (some ⟨b,0,none⟩)],.int .i64 0]))∧Below w.heap.size w w'):=fun w hb=>by
    have:=read_c (h.below hb) hi c i
    rw [hm] at this
    exact this
  have HZ2:Hid (((W.alloc (.cells #[.int .i64 c,.int .i64 i] 24)).alloc (.cells #[.int .i64 0,.int .i64 0] 24)).heap[W.heap.size+1]?=some (.cells #[.int .i64 0,.int .i64 0] 24 (0,0))):=halloc2 _ _ (by simp)
  have HD:Hid (∀ w,Below W.heap.size W w→Calls Tryz.prog 86 #[.pointer (some ⟨b,0,none⟩),.int .i64 r] w fun e w'=>e=.returned (.tuple #[.slice none 0 0,.int .i64 3])∧Below w.heap.size w w'):=fun w hb=>down_no (h.below hb) r hr
  clear h hi hm hr
  go_enter Tryz.func22,Tryz.ntmps22
  go_wp2_with (first
    | (go_at_call 83;refine (HR.out _ (by repeat (first|exact Below.refl _ _|refine Below.setCell ?_ (by simp;try omega) _|refine Below.alloc ?_ (by simp;try omega) _|refine Below.drew ?_))).mono ?_;rintro e w1 ⟨⟨ma,mk,mo,rfl⟩,hb⟩;have Bw1:Hid (Below (W.heap.size+2) ((W.alloc (.cells #[.int .i64 c,.int .i64 i] 24)).alloc (.cells #[.int .i64 0,.int .i64 0] 24)) w1):=hb.mono (by simp);clear hb HR)
    | (go_at_call 86;refine (HD.out _ ((((((Below.refl _ W).alloc (Nat.le_refl _) _).alloc (by simp) _).trans (Bw1.out.mono (by omega)))).alloc (by have:=Bw1.out.size;simp at this;omega) _)).mono ?_;rintro e w2 ⟨rfl,hb⟩;have Bw2:Hid (Below (W.heap.size+2) ((W.alloc (.cells #[.int .i64 c,.int .i64 i] 24)).alloc (.cells #[.int .i64 0,.int .i64 0] 24)) w2):=(Bw1.out.alloc (by have:=Bw1.out.size;simpa using this) _).trans (hb.mono (by have:=Bw1.out.size;simp at this;simp;omega));obtain ⟨z0,z1,f0,f1,zL⟩:=row2 ((Bw2.out.block (W.heap.size+1) (by omega)).trans HZ2.out);clear hb HD))
  exact bodyPost_ret (v:=idE ((0,0),3)) (by simp [results,Tryz.results22,go_sem,idE, *]) rfl ⟨rfl,(by have hbw:Below W.heap.size W w2:=(((Below.refl _ W).alloc (Nat.le_refl _) _).alloc (by simp) _).trans (Bw2.out.mono (by omega));repeat (first|refine Below.setCell ?_ (by simp;try omega) _|refine Below.alloc ?_ (by have:=hbw.size;simp;try omega) _|exact hbw))⟩
theorem firI_eq {ps:List Plc} {r:Int} {a:Int×Int} {m:HM} {k:Nat} {q:Plc} (hm:methI ps a.1 a.2=some m) (hk:r=(k:Int)) (hq:ps[k]?=some q):firI ps r a=lstI (chL (ps.map nd) k) (gthL ps a (askL ps m a (chL (ps.map nd) k).reverse)):=by
  subst hk
  rw [firI,hm,plcI_nat,hq]
  rfl
theorem con_cast (l:List Nat) (k:Nat):(l.map (fun k:Nat=>(k:Int))).contains (k:Int)=l.reverse.contains k:=by
  rw [Bool.eq_iff_iff]
  simp only [List.contains_iff_mem,List.mem_map,List.mem_reverse]
  exact ⟨fun ⟨a, h, e⟩ => by have : a = k := by omega
                             subst this;exact h,fun h=>⟨k,h,rfl⟩⟩
set_option maxHeartbeats 4000000 in
theorem first_yes {b:Nat} {ps:List Plc} {W:World} (h:WAt b ps W) (hi:WI ps) (k:Nat) (q:Plc) (hq:ps[k]?=some q) (c i:Int) (m:HM) (hm:methI ps c i=some m):Calls Tryz.prog 22 #[.pointer (some ⟨b,0,none⟩),.int .i64 (k:Int),.agg #[.int .i64 c,.int .i64 i]] W fun e w'=>e=.returned (idE (firI ps (k:Int) (c,i)))∧Below W.heap.size W w':=by
  have HR:Hid (∀ w,Below W.heap.size W w→Calls Tryz.prog 83 #[.pointer (some ⟨b,0,none⟩),.agg #[.int .i64 c,.int .i64 i]] w fun e w'=>(∃ ma mk mo,e=.returned (.tuple #[.agg #[.string m.nm,.string m.ds,.int .i64 m.fl,.int .i64 m.lo,.int .i64 m.st,.slice ma mk mo,.int .i64 c,.int .i64 i,.pointer (some ⟨b,0,none⟩)],.int .i64 0]))∧Below w.heap.size w w'):=fun w hb=>by
    have:=read_c (h.below hb) hi c i
    rw [hm] at this
    exact this
  have HZ2:Hid (((W.alloc (.cells #[.int .i64 c,.int .i64 i] 24)).alloc (.cells #[.int .i64 0,.int .i64 0] 24)).heap[W.heap.size+1]?=some (.cells #[.int .i64 0,.int .i64 0] 24 (0,0))):=halloc2 _ _ (by simp)
  have hKb:(chL (ps.map nd) k).length≤300:=by
    have h1:=ch_len hi.wo k (by simpa using (List.getElem?_eq_some_iff.1 hq).1)
    have h2:=hi.hi
    have h3:=(List.getElem?_eq_some_iff.1 hq).1
    omega
  have HD:Hid (∀ w,Below W.heap.size W w→Calls Tryz.prog 86 #[.pointer (some ⟨b,0,none⟩),.int .i64 (k:Int)] w fun e w'=>∃ g cap,e=.returned (.tuple #[.slice (some ⟨g,0,none⟩) (chL (ps.map nd) k).length cap,.int .i64 0])∧w'.ownsRow w.heap.size 3 1 (.slice (some ⟨g,0,none⟩) (chL (ps.map nd) k).length cap) (chL (ps.map nd) k).length ((chL (ps.map nd) k).reverse.map numV)∧Below w.heap.size w w'):=fun w hb=>down_c (h.below hb) hi k q hq
  obtain ⟨G,hG⟩:∃ G,gthL ps (c,i) (askL ps m (c,i) (chL (ps.map nd) k).reverse)=G:=⟨_,rfl⟩
  rw [firI_eq (a:=(c,i)) hm rfl hq,hG]
  obtain ⟨R,hR⟩:∃ R,lstI (chL (ps.map nd) k) G=R:=⟨_,rfl⟩
  have HRR:Hid (lstI (chL (ps.map nd) k) G=R):=hR
  rw [hR]
  have hU:Below W.heap.size W ((W.alloc (.cells #[.int .i64 c,.int .i64 i] 24)).alloc (.cells #[.int .i64 0,.int .i64 0] 24)):=((Below.refl _ W).alloc (Nat.le_refl _) _).alloc (by simp) _
  have HG:Hid (∀ w (x:P9) (v:Value),Below (W.heap.size+2) ((W.alloc (.cells #[.int .i64 c,.int .i64 i] 24)).alloc (.cells #[.int .i64 0,.int .i64 0] 24)) w→OkP ps x→x.id=(c,i)→(x.nm,x.ds,x.c)=(m.nm,m.ds,c)→Rds w v (chL (ps.map nd) k).length 1 ((chL (ps.map nd) k).reverse.map numV)→Calls Tryz.prog 84 #[x.agg b,v] w fun e w'=>∃ (L:List P9) (g cap:Nat),e=.returned (.slice (some ⟨g,0,none⟩) L.length cap)∧(∀ y∈L,OkP ps y)∧L.map P9.id=G∧w'.ownsRow w.heap.size 119 9 (.slice (some ⟨g,0,none⟩) L.length cap) L.length (flat9 b L)∧Below w.heap.size w w'):=fun w x v hb ho hid hnd hv=>by
    have:=gth_c (h.below (hU.trans (hb.mono (by omega)))) hi x ho v (chL (ps.map nd) k).reverse (by rw [List.length_reverse];exact hv) (by rw [List.length_reverse];exact hKb)
    simp only [Prod.mk.injEq] at hnd
    rw [hid,hnd.1,hnd.2.1,hnd.2.2] at this
    rw [askL] at hG
    rw [hG] at this
    exact this
  have HN:Hid (∀ (w:World) (v:Value) (p:Nat),Rds w v (chL (ps.map nd) k).length 1 ((chL (ps.map nd) k).reverse.map numV)→Calls Tryz.prog 91 #[v,.int .i64 (p:Int)] w fun e w'=>e=.returned (.bool ((chL (ps.map nd) k).reverse.contains p))∧Below w.heap.size w w'):=fun w v p hv=>nContains_any v (chL (ps.map nd) k).reverse p w (by rw [List.length_reverse];exact hv) (by rw [List.length_reverse];omega)
  have HM:Hid (methI ps c i=some m):=hm
  have hGb:G.length≤301:=by
    rw [← hG]
    refine Nat.le_trans (gthL_len _ _ _) ?_
    have:=nskL_len ps m.nm m.ds (c,i).1 (chL (ps.map nd) k).reverse
    rw [List.length_reverse] at this
    rw [askL,List.length_cons]
    omega
  generalize chL (ps.map nd) k=l at *
  obtain ⟨K,hK⟩:∃ K,l.length=K:=⟨_,rfl⟩
  rw [hK] at HD HG HN hKb
  clear h hi hm hq hG hU hK hR
  simp only [P9.agg] at HG
  go_enter Tryz.func22,Tryz.ntmps22
  go_upto_region 8 with (first
    | (go_at_call 83;refine (HR.out _ (by repeat (first|exact Below.refl _ _|refine Below.setCell ?_ (by simp;try omega) _|refine Below.alloc ?_ (by simp;try omega) _|refine Below.drew ?_))).mono ?_;rintro e w1 ⟨⟨ma,mk,mo,rfl⟩,hb⟩;have Bw1:Hid (Below (W.heap.size+2) ((W.alloc (.cells #[.int .i64 c,.int .i64 i] 24)).alloc (.cells #[.int .i64 0,.int .i64 0] 24)) w1):=hb.mono (by simp);clear hb HR)
    | (go_at_call 86;refine (HD.out _ ((((((Below.refl _ W).alloc (Nat.le_refl _) _).alloc (by simp) _).trans (Bw1.out.mono (by omega)))).alloc (by have:=Bw1.out.size;simp at this;omega) _)).mono ?_;rintro e w2 ⟨dg,dc,rfl,ho,hb⟩;have Bw2:Hid (Below (W.heap.size+2) ((W.alloc (.cells #[.int .i64 c,.int .i64 i] 24)).alloc (.cells #[.int .i64 0,.int .i64 0] 24)) w2):=(Bw1.out.alloc (by have:=Bw1.out.size;simpa using this) _).trans (hb.mono (by have:=Bw1.out.size;simp at this;simp;omega));have D2:Hid (Rds w2 (.slice (some ⟨dg,0,none⟩) K dc) K 1 (l.reverse.map numV)):=own_rds ho;obtain ⟨p0,p1,p2,p3,p4,p5,p6,p7,p8,pL⟩:=row9 ((hb.block w1.heap.size (by simp)).trans (halloc1 w1 (.cells #[.string m.nm,.string m.ds,.int .i64 m.fl,.int .i64 m.lo,.int .i64 m.st,.slice ma mk mo,.int .i64 c,.int .i64 i,.pointer (some ⟨b,0,none⟩)] 119)));clear hb ho HD)
    | (go_at_call 84;refine (HG.out w2 ⟨m.nm,m.ds,m.fl,m.lo,m.st,ma,mk,mo,c,i⟩ (.slice (some ⟨dg,0,none⟩) K dc) Bw2.out ⟨m,HM.out,rfl,rfl,rfl⟩ rfl rfl D2.out).mono ?_;rintro e w3 ⟨L,g,cap,rfl,hok,hid,ho,hb⟩;have OK3:Hid (∀ y∈L,OkP ps y):=hok;have ID3:Hid (L.map P9.id=G):=hid;have O3:Hid (w3.ownsRow w2.heap.size 119 9 (.slice (some ⟨g,0,none⟩) L.length cap) L.length (flat9 b L)):=ho;have Bw3:Hid (Below (W.heap.size+2) ((W.alloc (.cells #[.int .i64 c,.int .i64 i] 24)).alloc (.cells #[.int .i64 0,.int .i64 0] 24)) w3):=Bw2.out.trans (hb.mono (Nat.le_trans (by simp) Bw2.out.size));have D3:Hid (Rds w3 (.slice (some ⟨dg,0,none⟩) K dc) K 1 (l.reverse.map numV)):=D2.out.keep hb;obtain ⟨z0,z1,f0,f1,zL⟩:=row2 ((Bw3.out.block (W.heap.size+1) (by omega)).trans HZ2.out);clear hb ho hok hid HG))
  rcases List.eq_nil_or_concat L with hL|⟨L0,y,hL⟩
  · subst hL
    have hG0:G=[]:=ID3.out.symm
    subst hG0
    have eR:R=((0,0),6):=HRR.out.symm
    subst eR
    clear HRR OK3 ID3 O3
    go_wp2
    exact bodyPost_ret (v:=idE ((0,0),6)) (by simp [results,Tryz.results22,go_sem,idE, *]) rfl ⟨rfl,(by have hbw:Below W.heap.size W w3:=(((Below.refl _ W).alloc (Nat.le_refl _) _).alloc (by simp) _).trans (Bw3.out.mono (by omega));repeat (first|refine Below.setCell ?_ (by simp;try omega) _|refine Below.alloc ?_ (by have:=hbw.size;simp;try omega) _|exact hbw))⟩
  · subst hL
    have hlast:(L0.concat y)[L0.length]?=some y:=by simp
    have hyo:=OK3.out y (by simp)
    obtain ⟨e0,e1,e2,e3,e4,e5,e6,e7,e8,gL⟩:=row9_cells O3.out hlast
    have hGl:G.getLast?=some y.id:=by rw [← ID3.out,List.concat_eq_append,List.map_append];simp
    have HGl:Hid (G.getLast?=some y.id):=hGl
    have hlen:(L0.concat y).length=L0.length+1:=by simp
    obtain ⟨p,hp⟩:∃ p:Nat,y.c=(p:Int):=by
      obtain ⟨m2,hm2,_⟩:=hyo
      rcases plcI_cases ps y.c with ⟨h1,_⟩|⟨p,_,e,_⟩
      · rw [methI,h1] at hm2;cases hm2
      · exact ⟨p,e⟩
    have HN2:Hid (∀ w,Below w3.heap.size w3 w→Calls Tryz.prog 91 #[.slice (some ⟨dg,0,none⟩) K dc,.int .i64 (p:Int)] w fun e w'=>e=.returned (.bool (l.reverse.contains p))∧Below w.heap.size w w'):=fun w hb=>HN.out w _ p (D3.out.keep hb)
    obtain ⟨yn,yd,yf,yl,ys,ya,yk,yo,yc,yi⟩:=y
    simp only at hp
    subst hp
    have HCC:Hid ((l.map (fun k:Nat=>(k:Int))).contains (p:Int)=l.reverse.contains p):=con_cast l p
    have HRC:Hid (R=if l.reverse.contains p then (((p:Int),yi),0) else ((0,0),6)):=by rw [Hid,← HRR.out,lstI_last HGl.out,P9.id,HCC.out]
    clear HCC HRR
    generalize l.reverse.contains p=B at *
    rw [hlen] at O3 ⊢
    obtain ⟨n,hn⟩:∃ n,L0.length=n:=⟨_,rfl⟩
    have hnb:n≤1000000:=by
      have e:=congrArg List.length ID3.out
      simp at e
      omega
    rw [hn] at O3 e0 e1 e2 e3 e4 e5 e6 e7 e8 ⊢
    clear hlen hlast hyo hGl HGl hn OK3 ID3 HN
    cases B
    all_goals
      have eR:=HRC.out
      simp only [Bool.false_eq_true,if_false,if_true] at eR
      subst eR
      clear HRC
      go_wp2_with (go_at_call 91;refine (HN2.out _ ((Below.refl _ _).alloc (Nat.le_refl _) _)).mono ?_;rintro e w4 ⟨rfl,hb⟩;clear z0 z1 f0 f1 zL;have Bw4:Hid (Below (W.heap.size+2) ((W.alloc (.cells #[.int .i64 c,.int .i64 i] 24)).alloc (.cells #[.int .i64 0,.int .i64 0] 24)) w4):=(Bw3.out.alloc (by have:=Bw3.out.size;simpa using this) _).trans (hb.mono (by have:=Bw3.out.size;simp at this;simp;omega));obtain ⟨z0,z1,f0,f1,zL⟩:=row2 ((Bw4.out.block (W.heap.size+1) (by omega)).trans HZ2.out);obtain ⟨u0,u1,_,_,uL⟩:=row2 ((hb.block w3.heap.size (by simp)).trans (halloc1 w3 (.cells #[.int .i64 (p:Int),.int .i64 yi] 24)));clear hb HN2)
    · exact bodyPost_ret (v:=idE ((0,0),6)) (by simp [results,Tryz.results22,go_sem,idE, *]) rfl ⟨rfl,(by have hbw:Below W.heap.size W w4:=(((Below.refl _ W).alloc (Nat.le_refl _) _).alloc (by simp) _).trans (Bw4.out.mono (by omega));repeat (first|refine Below.setCell ?_ (by simp;try omega) _|refine Below.alloc ?_ (by have:=hbw.size;simp;try omega) _|exact hbw))⟩
    · exact bodyPost_ret (v:=idE (((p:Int),yi),0)) (by simp [results,Tryz.results22,go_sem,idE, *]) rfl ⟨rfl,(by have hbw:Below W.heap.size W w4:=(((Below.refl _ W).alloc (Nat.le_refl _) _).alloc (by simp) _).trans (Bw4.out.mono (by omega));repeat (first|refine Below.setCell ?_ (by simp;try omega) _|refine Below.alloc ?_ (by have:=hbw.size;simp;try omega) _|exact hbw))⟩
theorem first_c {b:Nat} {ps:List Plc} {W:World} (h:WAt b ps W) (hi:WI ps) (r c i:Int):Calls Tryz.prog 22 #[.pointer (some ⟨b,0,none⟩),.int .i64 r,.agg #[.int .i64 c,.int .i64 i]] W fun e w'=>e=.returned (idE (firI ps r (c,i)))∧Below W.heap.size W w':=by
  cases hm:methI ps c i with
  | none =>
    have e:firI ps r (c,i)=((0,0),3):=by simp only [firI,hm]
    rw [e];exact first_no1 h hi r c i hm
  | some m =>
    rcases plcI_cases ps r with ⟨h1,_⟩|⟨k,q,rfl,h2,h1⟩
    · have e:firI ps r (c,i)=((0,0),3):=by simp only [firI,hm,h1]
      rw [e];exact first_no2 h hi r c i m hm h1
    · exact first_yes h hi k q h2 c i m hm
end Go.Proofs.YthfifobokpfpkaaGreat
