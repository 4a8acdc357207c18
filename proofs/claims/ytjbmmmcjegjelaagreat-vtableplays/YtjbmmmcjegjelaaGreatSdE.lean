import Derived.Test.YtjbmmmcjegjelaaGreatSdC
import Derived.Test.YtjbmmmcjegjelaaGreatVtQ
import Derived.Test.YtjbmmmcjegjelaaGreatRfB
import Derived.Test.YtjbmmmcjegjelaaGreatHrQ
import Derived.Test.YtjbmmmcjegjelaaGreatVtD
import Derived.Test.YtjbmmmcjegjelaaGreatLcQ
import Derived.Test.YtjbmmmcjegjelaaGreatSq
set_option maxHeartbeats 8000000
set_option maxRecDepth 100000
namespace Go.Proofs.YtjbmmmcjegjelaaGreat
open Go.RowKit Go.Maps
theorem Zea {α:Type} (p:α→Bool):∀ (l r:List α) (k:Nat),idxL p (l++r) k=if idxL p l k<0 then idxL p r (k+l.length) else idxL p l k
  | [],r,k=>by simp [idxL]
  | x::l,r,k=>by
    rw [List.cons_append,idxL,idxL]
    cases e:p x with
    | true=>simp;intro h;omega
    | false =>
      simp only [Bool.false_eq_true,if_false]
      rw [Zea p l r (k+1),List.length_cons,show k+1+l.length=k+(l.length+1) by omega]
theorem Zfw {α:Type} (p:α→Bool) {T:List α} {k:Nat} {x:α} (h:T[k]?=some x):idxL p (T.take (k+1)) 0=if idxL p (T.take k) 0<0 then (if p x then (k:Int) else -1) else idxL p (T.take k) 0:=by
  have hl:=(List.getElem?_eq_some_iff.1 h).1
  rw [List.take_add_one,h,Option.toList_some,Zea,List.length_take,Nat.min_eq_left (by omega),Nat.zero_add]
  rfl
theorem idxL_hit {α:Type} (p:α→Bool) {T:List α} {k:Nat} {x:α} (h:T[k]?=some x) (h0:idxL p (T.take k) 0=-1) (hp:p x=true):idxL p T 0=(k:Int):=by
  have hl:=(List.getElem?_eq_some_iff.1 h).1
  have e:T=T.take k++T.drop k:=(List.take_append_drop k T).symm
  rw [e,Zea,h0,if_pos (by decide),List.length_take,Nat.min_eq_left (by omega),Nat.zero_add,List.drop_eq_getElem_cons hl,(List.getElem?_eq_some_iff.1 h).2,idxL,if_pos hp]
theorem r13s_1 (W:World) (b:Nat) (c i:Int) (HI:Hid (∀ w,Below W.heap.size W w→Calls Tryz.prog 35 #[.pointer (some ⟨b,0,none⟩),.agg #[.int .i64 c,.int .i64 i]] w fun e w'=>e=.returned (.bool false)∧Below w.heap.size w w')):Calls Tryz.prog 15 #[.pointer (some ⟨b,0,none⟩),.agg #[.int .i64 c,.int .i64 i]] W fun e w'=>e=.returned (.tuple #[.int .i64 0,.int .i64 3])∧Below W.heap.size W w':=by
  go_enter Tryz.func15,Tryz.ntmps15
  go_wp2_with (first
    | (go_at_call 35;refine (HI.out _ sqR).mono ?_;rintro e w1 ⟨rfl,hb⟩;have mmd:=kp2 (n:=W.heap.size) hb;(try clear mmB mm0 mm1 mmf mmL mmN);obtain ⟨mmB,mm0,mm1,mmf,mmL,mmN⟩:=mmd;have B1:Hid (Below W.heap.size W w1):=Za sqR hb;clear hb HI))
  exact bodyPost_ret (results_tmp2 rfl _ _ _) rfl ⟨rfl,(sqE B1)⟩
theorem r13s_2 (W:World) (b:Nat) (c i:Int) (HI:Hid (∀ w,Below W.heap.size W w→Calls Tryz.prog 35 #[.pointer (some ⟨b,0,none⟩),.agg #[.int .i64 c,.int .i64 i]] w fun e w'=>e=.returned (.bool true)∧Below w.heap.size w w')) (HV:Hid (∀ w,Below W.heap.size W w→Calls Tryz.prog 36 #[.pointer (some ⟨b,0,none⟩),.agg #[.int .i64 c,.int .i64 i]] w fun e w'=>e=.returned (.bool false)∧Below w.heap.size w w')):Calls Tryz.prog 15 #[.pointer (some ⟨b,0,none⟩),.agg #[.int .i64 c,.int .i64 i]] W fun e w'=>e=.returned (.tuple #[.int .i64 0,.int .i64 6])∧Below W.heap.size W w':=by
  go_enter Tryz.func15,Tryz.ntmps15
  go_wp2_with (first
    | (go_at_call 35;refine (HI.out _ sqR).mono ?_;rintro e w1 ⟨rfl,hb⟩;have mmd:=kp2 (n:=W.heap.size) hb;(try clear mmB mm0 mm1 mmf mmL mmN);obtain ⟨mmB,mm0,mm1,mmf,mmL,mmN⟩:=mmd;have B1:Hid (Below W.heap.size W w1):=Za sqR hb;clear hb HI)
    | (go_at_call 36;refine (HV.out _ B1.out).mono ?_;rintro e w2 ⟨rfl,hb⟩;have mmd:=kp2 (n:=W.heap.size) hb;(try clear mmB mm0 mm1 mmf mmL mmN);obtain ⟨mmB,mm0,mm1,mmf,mmL,mmN⟩:=mmd;have B2:Hid (Below W.heap.size W w2):=Za B1.out hb;clear hb HV))
  exact bodyPost_ret (results_tmp2 rfl _ _ _) rfl ⟨rfl,(sqE B2)⟩
theorem r13s_3 (W:World) (b:Nat) (c i:Int) (T:List Sl) (n:Nat) (HTL:Hid (T.length=n)) (hn:n≤300000000) (HI:Hid (∀ w,Below W.heap.size W w→Calls Tryz.prog 35 #[.pointer (some ⟨b,0,none⟩),.agg #[.int .i64 c,.int .i64 i]] w fun e w'=>e=.returned (.bool true)∧Below w.heap.size w w')) (HV:Hid (∀ w,Below W.heap.size W w→Calls Tryz.prog 36 #[.pointer (some ⟨b,0,none⟩),.agg #[.int .i64 c,.int .i64 i]] w fun e w'=>e=.returned (.bool true)∧Below w.heap.size w w')) (HT:Hid (∀ w,Below W.heap.size W w→Calls Tryz.prog 10 #[.pointer (some ⟨b,0,none⟩),.int .i64 c] w fun e w'=>(∃ v E,e=.returned (.tuple #[v,.int .i64 E])∧w'.ownsRow w.heap.size 48 4 v n (Yi T))∧Below w.heap.size w w')):Calls Tryz.prog 15 #[.pointer (some ⟨b,0,none⟩),.agg #[.int .i64 c,.int .i64 i]] W fun e w'=>e=.returned (.tuple #[.int .i64 (sloP T c i),.int .i64 0])∧Below W.heap.size W w':=by
  obtain ⟨PP,hPP⟩:∃ PP,sloP T c i=PP:=⟨_,rfl⟩
  rw [hPP]
  have HPP:Hid (sloP T c i=PP):=hPP
  clear hPP
  go_enter Tryz.func15,Tryz.ntmps15
  go_wp2_with (first
    | (go_at_call 35;refine (HI.out _ sqR).mono ?_;rintro e w1 ⟨rfl,hb⟩;have mmd:=kp2 (n:=W.heap.size) hb;(try clear mmB mm0 mm1 mmf mmL mmN);obtain ⟨mmB,mm0,mm1,mmf,mmL,mmN⟩:=mmd;have B1:Hid (Below W.heap.size W w1):=Za sqR hb;clear hb HI)
    | (go_at_call 36;refine (HV.out _ B1.out).mono ?_;rintro e w2 ⟨rfl,hb⟩;have mmd:=kp2 (n:=W.heap.size) hb;(try clear mmB mm0 mm1 mmf mmL mmN);obtain ⟨mmB,mm0,mm1,mmf,mmL,mmN⟩:=mmd;have B2:Hid (Below W.heap.size W w2):=Za B1.out hb;clear hb HV)
    | (go_at_call 10;refine (HT.out _ B2.out).mono ?_;rintro e w3 ⟨⟨v,E,rfl,ho⟩,hb⟩;obtain ⟨va,vc,rfl⟩:=ownv ho;have OT:Hid (w3.ownsRow w2.heap.size 48 4 (.slice va n vc) n (Yi T)):=ho;clear ho;have mmd:=kp2 (n:=W.heap.size) hb;(try clear mmB mm0 mm1 mmf mmL mmN);obtain ⟨mmB,mm0,mm1,mmf,mmL,mmN⟩:=mmd;have B3:Hid (Below W.heap.size W w3):=Za B2.out hb;clear hb HT))
  go_loopw [8,9] (fun fv iv wr=>∃ k:Nat,fv=.int .i64 (idxL (isMt c i) (T.take k) 0)∧iv=.int .i64 k∧k≤n∧Hid (idxL (isRt c i) (T.take k) 0=-1)∧Hid (Below w3.heap.size w3 wr)) (fun _ iv _=>n - (intOf iv).toNat)
  case atStart=>exact ⟨0,rfl,rfl,Nat.zero_le _,rfl,Below.refl _ _⟩
  case round =>
    obtain ⟨k,rfl,rfl,hk,hR,hB⟩:=hrel
    by_cases hlt:k<n
    · have hkI:(k:Int)<(n:Int):=by omega
      obtain ⟨x,hx⟩:∃ x,T[k]?=some x:=⟨_,List.getElem?_eq_getElem (by rw [HTL.out];exact hlt)⟩
      obtain ⟨g1,d1,hf1,_,hgl1,q1⟩:=Zdv OT.out (by omega)
      injection hf1 with ha1 _ hc1
      subst ha1 hc1
      have e0:w3.cell? ⟨g1,k * 4,none⟩=_:=q1 _ _ ((Y5 T k x 0 hx (by decide)).trans rfl)
      have e1:=q1 _ _ ((Y5 T k x 1 hx (by decide)).trans rfl)
      have e2:=q1 _ _ ((Y5 T k x 2 hx (by decide)).trans rfl)
      have e3:=q1 _ _ ((Y5 T k x 3 hx (by decide)).trans rfl)
      obtain ⟨σ,U,hne,U1,U2⟩:=class_of' (fun w'=>Below w3.heap.size w3 w') ⟨_,Below.refl _ _⟩
      have kp:∀ (s:σ) (bb j:Nat) (v:Value),bb<w3.heap.size→w3.cell? ⟨bb,j,none⟩=some v→(U s).cell? ⟨bb,j,none⟩=some v:=fun s bb j v hl h=>((U1.out s).cell (p:=⟨bb,j,none⟩) hl).trans h
      replace e0:=fun s=>kp s _ _ _ hgl1 e0
      replace e1:=fun s=>kp s _ _ _ hgl1 e1
      replace e2:=fun s=>kp s _ _ _ hgl1 e2
      replace e3:=fun s=>kp s _ _ _ hgl1 e3
      have u0:=fun s=>kp s _ _ _ mmL mm0
      have u1:=fun s=>kp s _ _ _ mmL mm1
      have HRn:Hid (isRt c i x=false→idxL (isRt c i) (T.take (k+1)) 0=-1):=fun h=>by rw [Zfw _ hx,hR.out,if_pos (by decide),h];rfl
      have HRh:Hid (isRt c i x=true→PP=(k:Int)):=fun h=>by
        have e:=idxL_hit _ hx hR.out h
        rw [← HPP.out,sloP,e,if_neg (by omega)]
      have HMn:Hid (idxL (isMt c i) (T.take (k+1)) 0=if idxL (isMt c i) (T.take k) 0<0 then (if isMt c i x then (k:Int) else -1) else idxL (isMt c i) (T.take k) 0):=Zfw _ hx
      have HFm:Hid (idxL (isMt c i) (T.take k) 0<0→idxL (isMt c i) (T.take k) 0=-1):=fun h=>by
        rcases Jr (isMt c i) (T.take k) 0 with ⟨h1,_⟩|⟨j,y,h1,_,_⟩
        · exact h1
        · omega
      have HS1:Hid (∀ s,Calls Tryz.prog 18 #[.agg #[.int .i64 x.1.1,.int .i64 x.1.2],.agg #[.int .i64 c,.int .i64 i]] (U s) fun e w'=>e=.returned (.bool (isRt c i x))∧∃ s',w'=U s'):=fun s=>(Za3 x.1 (c,i) (U s)).mono fun e w' zz=>⟨zz.1,U2.out _ (Za (U1.out s) zz.2)⟩
      have HS2:Hid (∀ s,Calls Tryz.prog 18 #[.agg #[.int .i64 x.2.1,.int .i64 x.2.2],.agg #[.int .i64 c,.int .i64 i]] (U s) fun e w'=>e=.returned (.bool (isMt c i x))∧∃ s',w'=U s'):=fun s=>(Za3 x.2 (c,i) (U s)).mono fun e w' zz=>⟨zz.1,U2.out _ (Za (U1.out s) zz.2)⟩
      obtain ⟨⟨x1,x2⟩,⟨x3,x4⟩⟩:=x
      simp only at e0 e1 e2 e3 HS1 HS2
      clear hx kp q1 hR mmB mm0 mm1 mmf mmL mmN
      generalize idxL (isMt c i) (T.take k) 0=F at *
      generalize isRt c i ((x1,x2),(x3,x4))=b1 at *
      generalize isMt c i ((x1,x2),(x3,x4))=b2 at *
      cases b1
      · by_cases hF:F<0
        · have hFd:decide (F<0)=true:=by simp [hF]
          cases b2
          all_goals
            go_wp2
            refine Zd (C:=fun w'=>∃ s,w'=U s) (by kernel_rfl) (by kernel_rfl) (U2.out _ (hB.out.drew)) ?_
            repeat (go_big_quiet_step ((go_at_call 18;exact HS1.out _)))
            refine wpQuiet_nil ?_
            intro w8 hw8
            obtain ⟨s8,rfl⟩:=hw8
            have B8:Hid (Below w3.heap.size w3 (U s8)):=U1.out s8
            go_wp2
            refine Zd (C:=fun w'=>∃ s,w'=U s) (by kernel_rfl) (by kernel_rfl) (U2.out _ (B8.out.drew)) ?_
            repeat (go_big_quiet_step ((go_at_call 18;exact HS2.out _)))
            refine wpQuiet_nil ?_
            intro w9 hw9
            obtain ⟨s9,rfl⟩:=hw9
            have B9:Hid (Below w3.heap.size w3 (U s9)):=U1.out s9
            go_wp2
            go_roundw
            all_goals first|exact ⟨k+1,(by rw [HMn.out,if_pos (by omega)];simp;try exact HFm.out (by omega)),by go_num,by omega,HRn.out (by trivial),B9⟩|(simp [intOf];omega)
        · have hFd:decide (F<0)=false:=by simp [hF]
          go_wp2
          refine Zd (C:=fun w'=>∃ s,w'=U s) (by kernel_rfl) (by kernel_rfl) (U2.out _ (hB.out.drew)) ?_
          repeat (go_big_quiet_step ((go_at_call 18;exact HS1.out _)))
          refine wpQuiet_nil ?_
          intro w8 hw8
          obtain ⟨s8,rfl⟩:=hw8
          have B8:Hid (Below w3.heap.size w3 (U s8)):=U1.out s8
          go_wp2
          refine Zd (C:=fun w'=>∃ s,w'=U s) (by kernel_rfl) (by kernel_rfl) (U2.out _ (B8.out.drew)) ?_
          repeat (go_big_quiet_step ((go_at_call 18;exact HS2.out _)))
          refine wpQuiet_nil ?_
          intro w9 hw9
          obtain ⟨s9,rfl⟩:=hw9
          have B9:Hid (Below w3.heap.size w3 (U s9)):=U1.out s9
          go_wp2
          go_roundw
          case rel=>exact ⟨k+1,(by rw [HMn.out,if_neg (by omega)]),by go_num,by omega,HRn.out (by trivial),B9⟩
          case measure=>simp [intOf];omega
      · go_wp2
        refine Zd (C:=fun w'=>∃ s,w'=U s) (by kernel_rfl) (by kernel_rfl) (U2.out _ (hB.out.drew)) ?_
        repeat (go_big_quiet_step ((go_at_call 18;exact HS1.out _)))
        refine wpQuiet_nil ?_
        intro w8 hw8
        obtain ⟨s8,rfl⟩:=hw8
        have B8:Hid (Below w3.heap.size w3 (U s8)):=U1.out s8
        go_wp2
        exact bodyPost_ret (results_tmp2 rfl _ _ _) rfl ⟨(by rw [HRh.out (by trivial)];rfl),Za B3.out B8.out⟩
    · have e:k=n:=by omega
      subst e
      have eT:T.take k=T:=List.take_of_length_le (by rw [HTL.out];exact Nat.le_refl _)
      have eP:idxL (isMt c i) (T.take k) 0=PP:=by
        have h:=hR.out
        rw [eT] at h ⊢
        rw [← HPP.out,sloP,h,if_pos (by decide)]
      rw [eP]
      clear eP eT
      go_wp2
      exact bodyPost_ret (results_tmp2 rfl _ _ _) rfl ⟨rfl,Za B3.out hB.out⟩
theorem r13s_c {b:Nat} {cs:List Cls} {ps:List Plc} {W:World} (h:RAt b cs W) (ht:TwW cs ps) (hJ:WJ ps) (hS:SndI ps) (hU:UnqM ps) (hz:∀ c∈cs,c.nm.size≤maxLen) (c i:Int):Calls Tryz.prog 15 #[.pointer (some ⟨b,0,none⟩),.agg #[.int .i64 c,.int .i64 i]] W fun e w'=>e=.returned (.tuple #[.int .i64 (sloR ps c i).1,.int .i64 (sloR ps c i).2])∧Below W.heap.size W w':=by
  have hI:∀ w,Below W.heap.size W w→Calls Tryz.prog 35 #[.pointer (some ⟨b,0,none⟩),.agg #[.int .i64 c,.int .i64 i]] w fun e w'=>e=.returned (.bool (Zm ps c i).isSome)∧Below w.heap.size w w':=fun w hb=>Zbk (h.below hb) ht c i
  cases hm:Zm ps c i with
  | none =>
    rw [hm] at hI
    have e:sloR ps c i=(0,3):=by rw [sloR,hm]
    rw [e]
    exact r13s_1 W b c i hI
  | some m =>
    rw [hm] at hI
    have hV:∀ w,Below W.heap.size W w→Calls Tryz.prog 36 #[.pointer (some ⟨b,0,none⟩),.agg #[.int .i64 c,.int .i64 i]] w fun e w'=>e=.returned (.bool (vrI ps c m))∧Below w.heap.size w w':=fun w hb=>Zh1 (h.below hb) ht c i m hm
    cases hv:vrI ps c m with
    | false =>
      rw [hv] at hV
      have e:sloR ps c i=(0,6):=by
        rw [sloR,hm]
        simp only
        rw [if_pos]
        rw [vrI] at hv
        cases h1:ifcI ps c with
        | true=>exact .inl rfl
        | false=>rw [h1] at hv;exact .inr (by simpa using hv)
      rw [e]
      exact r13s_2 W b c i hI hV
    | true =>
      rw [hv] at hV
      rw [vrI,Bool.and_eq_true] at hv
      have hf:ifcI ps c=false:=by simpa using hv.1
      obtain ⟨k,q,rfl,hq,_,_⟩:=Yw hm
      have e:sloR ps (k:Int) i=(sloP (tabP ps k) (k:Int) i,0):=by
        rw [sloR,hm]
        simp only
        rw [if_neg (by rw [hf,hv.2];simp),Int.toNat_natCast]
      rw [e]
      have e1:vckE ps (k:Int)=0:=by rw [vckE,Z8,hq];simp only [hf];rfl
      have e2:bldT ps (k:Int)=tabP ps k:=by rw [bldT,if_pos e1,Int.toNat_natCast]
      refine r13s_3 W b (k:Int) i (tabP ps k) _ rfl (Za2 ht.wi (List.getElem?_eq_some_iff.1 hq).1) hI hV (fun w hb=>?_)
      have:=r13b_c (h.below hb) ht hJ hS hU hz (k:Int)
      rw [e2] at this
      exact this.mono fun e w' zz=>⟨by obtain ⟨v,h1,h2⟩:=zz.1;exact ⟨v,_,h1,h2⟩,zz.2⟩
theorem r13l_1 (W:World) (b:Nat) (r c i:Int) (HI:Hid (∀ w,Below W.heap.size W w→Calls Tryz.prog 35 #[.pointer (some ⟨b,0,none⟩),.agg #[.int .i64 c,.int .i64 i]] w fun e w'=>e=.returned (.bool false)∧Below w.heap.size w w')):Calls Tryz.prog 17 #[.pointer (some ⟨b,0,none⟩),.int .i64 r,.agg #[.int .i64 c,.int .i64 i]] W fun e w'=>e=.returned (.tuple #[.agg #[.int .i64 0,.int .i64 0],.int .i64 3])∧Below W.heap.size W w':=by
  go_enter Tryz.func17,Tryz.ntmps17
  go_wp2_with (first
    | (go_at_call 35;refine (HI.out _ sqR).mono ?_;rintro e w1 ⟨rfl,hb⟩;have mmd:=kp2 (n:=W.heap.size) hb;(try clear mmB mm0 mm1 mmf mmL mmN);obtain ⟨mmB,mm0,mm1,mmf,mmL,mmN⟩:=mmd;have zzd:=kp2 (n:=W.heap.size+1) hb;(try clear zzB zz0 zz1 zzf zzL zzN);obtain ⟨zzB,zz0,zz1,zzf,zzL,zzN⟩:=zzd;have B1:Hid (Below W.heap.size W w1):=Za sqR hb;clear hb HI))
  exact bodyPost_ret (v:=.tuple #[.agg #[.int .i64 0,.int .i64 0],.int .i64 3]) (by simp [results,Tryz.results17,go_sem, *]) rfl ⟨rfl,(sqE B1)⟩
theorem r13l_2 (W:World) (b:Nat) (r c i:Int) (HI:Hid (∀ w,Below W.heap.size W w→Calls Tryz.prog 35 #[.pointer (some ⟨b,0,none⟩),.agg #[.int .i64 c,.int .i64 i]] w fun e w'=>e=.returned (.bool true)∧Below w.heap.size w w')) (HN:Hid (∀ w,Below W.heap.size W w→Calls Tryz.prog 25 #[.pointer (some ⟨b,0,none⟩),.int .i64 r] w fun e w'=>e=.returned (.bool false)∧w'=w)):Calls Tryz.prog 17 #[.pointer (some ⟨b,0,none⟩),.int .i64 r,.agg #[.int .i64 c,.int .i64 i]] W fun e w'=>e=.returned (.tuple #[.agg #[.int .i64 0,.int .i64 0],.int .i64 3])∧Below W.heap.size W w':=by
  go_enter Tryz.func17,Tryz.ntmps17
  go_wp2_with (first
    | (go_at_call 35;refine (HI.out _ sqR).mono ?_;rintro e w1 ⟨rfl,hb⟩;have mmd:=kp2 (n:=W.heap.size) hb;(try clear mmB mm0 mm1 mmf mmL mmN);obtain ⟨mmB,mm0,mm1,mmf,mmL,mmN⟩:=mmd;have zzd:=kp2 (n:=W.heap.size+1) hb;(try clear zzB zz0 zz1 zzf zzL zzN);obtain ⟨zzB,zz0,zz1,zzf,zzL,zzN⟩:=zzd;have B1:Hid (Below W.heap.size W w1):=Za sqR hb;clear hb HI)
    | (go_at_call 25;refine (HN.out _ B1.out).mono ?_;rintro e w9 ⟨rfl,hw9⟩;rw [hw9];clear hw9 w9 HN))
  exact bodyPost_ret (v:=.tuple #[.agg #[.int .i64 0,.int .i64 0],.int .i64 3]) (by simp [results,Tryz.results17,go_sem, *]) rfl ⟨rfl,(sqE B1)⟩
theorem r13l_3 (W:World) (b:Nat) (r c i:Int) (HI:Hid (∀ w,Below W.heap.size W w→Calls Tryz.prog 35 #[.pointer (some ⟨b,0,none⟩),.agg #[.int .i64 c,.int .i64 i]] w fun e w'=>e=.returned (.bool true)∧Below w.heap.size w w')) (HN:Hid (∀ w,Below W.heap.size W w→Calls Tryz.prog 25 #[.pointer (some ⟨b,0,none⟩),.int .i64 r] w fun e w'=>e=.returned (.bool true)∧w'=w)) (HF:Hid (∀ w,Below W.heap.size W w→Calls Tryz.prog 26 #[.pointer (some ⟨b,0,none⟩),.int .i64 r] w fun e w'=>e=.returned (.bool true)∧w'=w)):Calls Tryz.prog 17 #[.pointer (some ⟨b,0,none⟩),.int .i64 r,.agg #[.int .i64 c,.int .i64 i]] W fun e w'=>e=.returned (.tuple #[.agg #[.int .i64 0,.int .i64 0],.int .i64 23])∧Below W.heap.size W w':=by
  go_enter Tryz.func17,Tryz.ntmps17
  go_wp2_with (first
    | (go_at_call 35;refine (HI.out _ sqR).mono ?_;rintro e w1 ⟨rfl,hb⟩;have mmd:=kp2 (n:=W.heap.size) hb;(try clear mmB mm0 mm1 mmf mmL mmN);obtain ⟨mmB,mm0,mm1,mmf,mmL,mmN⟩:=mmd;have zzd:=kp2 (n:=W.heap.size+1) hb;(try clear zzB zz0 zz1 zzf zzL zzN);obtain ⟨zzB,zz0,zz1,zzf,zzL,zzN⟩:=zzd;have B1:Hid (Below W.heap.size W w1):=Za sqR hb;clear hb HI)
    | (go_at_call 25;refine (HN.out _ B1.out).mono ?_;rintro e w9 ⟨rfl,hw9⟩;rw [hw9];clear hw9 w9 HN)
    | (go_at_call 26;refine (HF.out _ B1.out).mono ?_;rintro e w9 ⟨rfl,hw9⟩;rw [hw9];clear hw9 w9 HF))
  exact bodyPost_ret (v:=.tuple #[.agg #[.int .i64 0,.int .i64 0],.int .i64 23]) (by simp [results,Tryz.results17,go_sem, *]) rfl ⟨rfl,(sqE B1)⟩
theorem r13l_4 (W:World) (b:Nat) (r c i:Int) (y x:Int) (hx:¬ x=0) (HI:Hid (∀ w,Below W.heap.size W w→Calls Tryz.prog 35 #[.pointer (some ⟨b,0,none⟩),.agg #[.int .i64 c,.int .i64 i]] w fun e w'=>e=.returned (.bool true)∧Below w.heap.size w w')) (HN:Hid (∀ w,Below W.heap.size W w→Calls Tryz.prog 25 #[.pointer (some ⟨b,0,none⟩),.int .i64 r] w fun e w'=>e=.returned (.bool true)∧w'=w)) (HF:Hid (∀ w,Below W.heap.size W w→Calls Tryz.prog 26 #[.pointer (some ⟨b,0,none⟩),.int .i64 r] w fun e w'=>e=.returned (.bool false)∧w'=w)) (HS:Hid (∀ w,Below W.heap.size W w→Calls Tryz.prog 15 #[.pointer (some ⟨b,0,none⟩),.agg #[.int .i64 c,.int .i64 i]] w fun e w'=>e=.returned (.tuple #[.int .i64 y,.int .i64 x])∧Below w.heap.size w w')):Calls Tryz.prog 17 #[.pointer (some ⟨b,0,none⟩),.int .i64 r,.agg #[.int .i64 c,.int .i64 i]] W fun e w'=>e=.returned (.tuple #[.agg #[.int .i64 0,.int .i64 0],.int .i64 6])∧Below W.heap.size W w':=by
  go_enter Tryz.func17,Tryz.ntmps17
  go_wp2_with (first
    | (go_at_call 35;refine (HI.out _ sqR).mono ?_;rintro e w1 ⟨rfl,hb⟩;have mmd:=kp2 (n:=W.heap.size) hb;(try clear mmB mm0 mm1 mmf mmL mmN);obtain ⟨mmB,mm0,mm1,mmf,mmL,mmN⟩:=mmd;have zzd:=kp2 (n:=W.heap.size+1) hb;(try clear zzB zz0 zz1 zzf zzL zzN);obtain ⟨zzB,zz0,zz1,zzf,zzL,zzN⟩:=zzd;have B1:Hid (Below W.heap.size W w1):=Za sqR hb;clear hb HI)
    | (go_at_call 25;refine (HN.out _ B1.out).mono ?_;rintro e w9 ⟨rfl,hw9⟩;rw [hw9];clear hw9 w9 HN)
    | (go_at_call 26;refine (HF.out _ B1.out).mono ?_;rintro e w9 ⟨rfl,hw9⟩;rw [hw9];clear hw9 w9 HF)
    | (go_at_call 15;refine (HS.out _ B1.out).mono ?_;rintro e w2 ⟨rfl,hb⟩;have mmd:=kp2 (n:=W.heap.size) hb;(try clear mmB mm0 mm1 mmf mmL mmN);obtain ⟨mmB,mm0,mm1,mmf,mmL,mmN⟩:=mmd;have zzd:=kp2 (n:=W.heap.size+1) hb;(try clear zzB zz0 zz1 zzf zzL zzN);obtain ⟨zzB,zz0,zz1,zzf,zzL,zzN⟩:=zzd;have B2:Hid (Below W.heap.size W w2):=Za B1.out hb;clear hb HS))
  exact bodyPost_ret (v:=.tuple #[.agg #[.int .i64 0,.int .i64 0],.int .i64 6]) (by simp [results,Tryz.results17,go_sem, *]) rfl ⟨rfl,(sqE B2)⟩
theorem r13l_5 (W:World) (b:Nat) (r c i:Int) (y:Int) (HI:Hid (∀ w,Below W.heap.size W w→Calls Tryz.prog 35 #[.pointer (some ⟨b,0,none⟩),.agg #[.int .i64 c,.int .i64 i]] w fun e w'=>e=.returned (.bool true)∧Below w.heap.size w w')) (HN:Hid (∀ w,Below W.heap.size W w→Calls Tryz.prog 25 #[.pointer (some ⟨b,0,none⟩),.int .i64 r] w fun e w'=>e=.returned (.bool true)∧w'=w)) (HF:Hid (∀ w,Below W.heap.size W w→Calls Tryz.prog 26 #[.pointer (some ⟨b,0,none⟩),.int .i64 r] w fun e w'=>e=.returned (.bool false)∧w'=w)) (HS:Hid (∀ w,Below W.heap.size W w→Calls Tryz.prog 15 #[.pointer (some ⟨b,0,none⟩),.agg #[.int .i64 c,.int .i64 i]] w fun e w'=>e=.returned (.tuple #[.int .i64 y,.int .i64 0])∧Below w.heap.size w w')) (HX:Hid (∀ w,Below W.heap.size W w→Calls Tryz.prog 38 #[.pointer (some ⟨b,0,none⟩),.int .i64 r,.int .i64 c] w fun e w'=>e=.returned (.bool false)∧Below w.heap.size w w')):Calls Tryz.prog 17 #[.pointer (some ⟨b,0,none⟩),.int .i64 r,.agg #[.int .i64 c,.int .i64 i]] W fun e w'=>e=.returned (.tuple #[.agg #[.int .i64 0,.int .i64 0],.int .i64 6])∧Below W.heap.size W w':=by
  go_enter Tryz.func17,Tryz.ntmps17
  go_wp2_with (first
    | (go_at_call 35;refine (HI.out _ sqR).mono ?_;rintro e w1 ⟨rfl,hb⟩;have mmd:=kp2 (n:=W.heap.size) hb;(try clear mmB mm0 mm1 mmf mmL mmN);obtain ⟨mmB,mm0,mm1,mmf,mmL,mmN⟩:=mmd;have zzd:=kp2 (n:=W.heap.size+1) hb;(try clear zzB zz0 zz1 zzf zzL zzN);obtain ⟨zzB,zz0,zz1,zzf,zzL,zzN⟩:=zzd;have B1:Hid (Below W.heap.size W w1):=Za sqR hb;clear hb HI)
    | (go_at_call 25;refine (HN.out _ B1.out).mono ?_;rintro e w9 ⟨rfl,hw9⟩;rw [hw9];clear hw9 w9 HN)
    | (go_at_call 26;refine (HF.out _ B1.out).mono ?_;rintro e w9 ⟨rfl,hw9⟩;rw [hw9];clear hw9 w9 HF)
    | (go_at_call 15;refine (HS.out _ B1.out).mono ?_;rintro e w2 ⟨rfl,hb⟩;have mmd:=kp2 (n:=W.heap.size) hb;(try clear mmB mm0 mm1 mmf mmL mmN);obtain ⟨mmB,mm0,mm1,mmf,mmL,mmN⟩:=mmd;have zzd:=kp2 (n:=W.heap.size+1) hb;(try clear zzB zz0 zz1 zzf zzL zzN);obtain ⟨zzB,zz0,zz1,zzf,zzL,zzN⟩:=zzd;have B2:Hid (Below W.heap.size W w2):=Za B1.out hb;clear hb HS)
    | (go_at_call 38;refine (HX.out _ B2.out).mono ?_;rintro e w3 ⟨rfl,hb⟩;have mmd:=kp2 (n:=W.heap.size) hb;(try clear mmB mm0 mm1 mmf mmL mmN);obtain ⟨mmB,mm0,mm1,mmf,mmL,mmN⟩:=mmd;have zzd:=kp2 (n:=W.heap.size+1) hb;(try clear zzB zz0 zz1 zzf zzL zzN);obtain ⟨zzB,zz0,zz1,zzf,zzL,zzN⟩:=zzd;have B3:Hid (Below W.heap.size W w3):=Za B2.out hb;clear hb HX))
  exact bodyPost_ret (v:=.tuple #[.agg #[.int .i64 0,.int .i64 0],.int .i64 6]) (by simp [results,Tryz.results17,go_sem, *]) rfl ⟨rfl,(sqE B3)⟩
theorem r13l_6 (W:World) (b:Nat) (r c i:Int) (T:List Sl) (p:Nat) (x:Sl) (hx:T[p]?=some x) (HI:Hid (∀ w,Below W.heap.size W w→Calls Tryz.prog 35 #[.pointer (some ⟨b,0,none⟩),.agg #[.int .i64 c,.int .i64 i]] w fun e w'=>e=.returned (.bool true)∧Below w.heap.size w w')) (HN:Hid (∀ w,Below W.heap.size W w→Calls Tryz.prog 25 #[.pointer (some ⟨b,0,none⟩),.int .i64 r] w fun e w'=>e=.returned (.bool true)∧w'=w)) (HF:Hid (∀ w,Below W.heap.size W w→Calls Tryz.prog 26 #[.pointer (some ⟨b,0,none⟩),.int .i64 r] w fun e w'=>e=.returned (.bool false)∧w'=w)) (HS:Hid (∀ w,Below W.heap.size W w→Calls Tryz.prog 15 #[.pointer (some ⟨b,0,none⟩),.agg #[.int .i64 c,.int .i64 i]] w fun e w'=>e=.returned (.tuple #[.int .i64 (p:Int),.int .i64 0])∧Below w.heap.size w w')) (HX:Hid (∀ w,Below W.heap.size W w→Calls Tryz.prog 38 #[.pointer (some ⟨b,0,none⟩),.int .i64 r,.int .i64 c] w fun e w'=>e=.returned (.bool true)∧Below w.heap.size w w')) (HT:Hid (∀ w,Below W.heap.size W w→Calls Tryz.prog 10 #[.pointer (some ⟨b,0,none⟩),.int .i64 r] w fun e w'=>(∃ v E,e=.returned (.tuple #[v,.int .i64 E])∧w'.ownsRow w.heap.size 48 4 v T.length (Yi T))∧Below w.heap.size w w')):Calls Tryz.prog 17 #[.pointer (some ⟨b,0,none⟩),.int .i64 r,.agg #[.int .i64 c,.int .i64 i]] W fun e w'=>e=.returned (.tuple #[.agg #[.int .i64 x.2.1,.int .i64 x.2.2],.int .i64 0])∧Below W.heap.size W w':=by
  have hpT:=(List.getElem?_eq_some_iff.1 hx).1
  have hT:0<T.length:=by omega
  have hpI:(p:Int)<(T.length:Int):=by omega
  go_enter Tryz.func17,Tryz.ntmps17
  go_wp2_with (first
    | (go_at_call 35;refine (HI.out _ sqR).mono ?_;rintro e w1 ⟨rfl,hb⟩;have mmd:=kp2 (n:=W.heap.size) hb;(try clear mmB mm0 mm1 mmf mmL mmN);obtain ⟨mmB,mm0,mm1,mmf,mmL,mmN⟩:=mmd;have zzd:=kp2 (n:=W.heap.size+1) hb;(try clear zzB zz0 zz1 zzf zzL zzN);obtain ⟨zzB,zz0,zz1,zzf,zzL,zzN⟩:=zzd;have B1:Hid (Below W.heap.size W w1):=Za sqR hb;clear hb HI)
    | (go_at_call 25;refine (HN.out _ B1.out).mono ?_;rintro e w9 ⟨rfl,hw9⟩;rw [hw9];clear hw9 w9 HN)
    | (go_at_call 26;refine (HF.out _ B1.out).mono ?_;rintro e w9 ⟨rfl,hw9⟩;rw [hw9];clear hw9 w9 HF)
    | (go_at_call 15;refine (HS.out _ B1.out).mono ?_;rintro e w2 ⟨rfl,hb⟩;have mmd:=kp2 (n:=W.heap.size) hb;(try clear mmB mm0 mm1 mmf mmL mmN);obtain ⟨mmB,mm0,mm1,mmf,mmL,mmN⟩:=mmd;have zzd:=kp2 (n:=W.heap.size+1) hb;(try clear zzB zz0 zz1 zzf zzL zzN);obtain ⟨zzB,zz0,zz1,zzf,zzL,zzN⟩:=zzd;have B2:Hid (Below W.heap.size W w2):=Za B1.out hb;clear hb HS)
    | (go_at_call 38;refine (HX.out _ B2.out).mono ?_;rintro e w3 ⟨rfl,hb⟩;have mmd:=kp2 (n:=W.heap.size) hb;(try clear mmB mm0 mm1 mmf mmL mmN);obtain ⟨mmB,mm0,mm1,mmf,mmL,mmN⟩:=mmd;have zzd:=kp2 (n:=W.heap.size+1) hb;(try clear zzB zz0 zz1 zzf zzL zzN);obtain ⟨zzB,zz0,zz1,zzf,zzL,zzN⟩:=zzd;have B3:Hid (Below W.heap.size W w3):=Za B2.out hb;clear hb HX)
    | (go_at_call 10;refine (HT.out _ B3.out).mono ?_;rintro e w4 ⟨⟨v,E,rfl,ho⟩,hb⟩;obtain ⟨gm,cm,rfl,_,hgl,hcs⟩:=Zdv ho hT;have t2:=hcs _ _ ((Y5 T p x 2 hx (by decide)).trans rfl);have t3:=hcs _ _ ((Y5 T p x 3 hx (by decide)).trans rfl);have hgN:¬ gm=W.heap.size+1:=(by omega);have mmd:=kp2 (n:=W.heap.size) hb;(try clear mmB mm0 mm1 mmf mmL mmN);obtain ⟨mmB,mm0,mm1,mmf,mmL,mmN⟩:=mmd;have zzd:=kp2 (n:=W.heap.size+1) hb;(try clear zzB zz0 zz1 zzf zzL zzN);obtain ⟨zzB,zz0,zz1,zzf,zzL,zzN⟩:=zzd;have B4:Hid (Below W.heap.size W w4):=Za B3.out hb;clear hb ho hcs HT))
  exact bodyPost_ret (v:=.tuple #[.agg #[.int .i64 x.2.1,.int .i64 x.2.2],.int .i64 0]) (by simp [results,Tryz.results17,go_sem, *]) rfl ⟨rfl,(sqE B4)⟩
theorem r13l_c {b:Nat} {cs:List Cls} {ps:List Plc} {W:World} (h:RAt b cs W) (ht:TwW cs ps) (hJ:WJ ps) (hS:SndI ps) (hU:UnqM ps) (hz:∀ c∈cs,c.nm.size≤maxLen) (r c i:Int):Calls Tryz.prog 17 #[.pointer (some ⟨b,0,none⟩),.int .i64 r,.agg #[.int .i64 c,.int .i64 i]] W fun e w'=>e=.returned (selE (selR ps r c i))∧Below W.heap.size W w':=by
  have hi:=ht.wi
  have hI:∀ w,Below W.heap.size W w→Calls Tryz.prog 35 #[.pointer (some ⟨b,0,none⟩),.agg #[.int .i64 c,.int .i64 i]] w fun e w'=>e=.returned (.bool (Zm ps c i).isSome)∧Below w.heap.size w w':=fun w hb=>Zbk (h.below hb) ht c i
  have hN:∀ w,Below W.heap.size W w→Calls Tryz.prog 25 #[.pointer (some ⟨b,0,none⟩),.int .i64 r] w fun e w'=>e=.returned (.bool (plcI ps r).isSome)∧w'=w:=fun w hb=>Zay (h.below hb) ht r
  have hF:∀ w,Below W.heap.size W w→Calls Tryz.prog 26 #[.pointer (some ⟨b,0,none⟩),.int .i64 r] w fun e w'=>e=.returned (.bool (ifcI ps r))∧w'=w:=fun w hb=>by
    have:=Y0 (h.below hb) r
    rw [Zah ht] at this
    exact this
  have hX:∀ w,Below W.heap.size W w→Calls Tryz.prog 38 #[.pointer (some ⟨b,0,none⟩),.int .i64 r,.int .i64 c] w fun e w'=>e=.returned (.bool (extI ps r c))∧Below w.heap.size w w':=fun w hb=>Zct (h.below hb) ht hJ r c
  have hSl:∀ w,Below W.heap.size W w→Calls Tryz.prog 15 #[.pointer (some ⟨b,0,none⟩),.agg #[.int .i64 c,.int .i64 i]] w fun e w'=>e=.returned (.tuple #[.int .i64 (sloR ps c i).1,.int .i64 (sloR ps c i).2])∧Below w.heap.size w w':=fun w hb=>r13s_c (h.below hb) ht hJ hS hU hz c i
  cases hm:Zm ps c i with
  | none =>
    rw [hm] at hI
    have e:selR ps r c i=((0,0),3):=by unfold selR;rw [hm]
    rw [e]
    exact r13l_1 W b r c i hI
  | some m =>
    rw [hm] at hI
    have es:∀ E,vckE ps r=E→¬ E=0→selR ps r c i=((0,0),E):=fun E h1 h2=>by unfold selR;rw [hm];simp only;rw [if_neg (by rw [h1];exact h2),h1]
    cases hp:plcI ps r with
    | none =>
      rw [hp] at hN
      rw [es 3 (by rw [vckE,hp]) (by decide)]
      exact r13l_2 W b r c i hI hN
    | some q =>
      rw [hp] at hN
      cases hf:ifcI ps r with
      | true =>
        rw [hf] at hF
        rw [es 23 (by rw [vckE,hp];simp only [hf];rfl) (by decide)]
        exact r13l_3 W b r c i hI hN hF
      | false =>
        rw [hf] at hF
        have hv:vckE ps r=0:=by rw [vckE,hp];simp only [hf];rfl
        by_cases hs:(sloR ps c i).2=0
        · rw [hs] at hSl
          cases hx:extI ps r c with
          | false =>
            rw [hx] at hX
            have e:selR ps r c i=((0,0),6):=by unfold selR;rw [hm];simp only;rw [if_pos hv,if_neg (by rw [hx];decide)]
            rw [e]
            exact r13l_5 W b r c i _ hI hN hF hSl hX
          | true =>
            rw [hx] at hX
            obtain ⟨k,j,q2,x,rfl,hq,hif,e1,e2,_⟩:=slo_ok hi hs
            obtain ⟨n,qr,rfl,hqr⟩:=Zeq hv
            have hn:=(List.getElem?_eq_some_iff.1 hqr).1
            have hin:=Zb4 hi hn (J0 _ n) hx hif
            have hlen:=Zj7 hi hn hin
            obtain ⟨y,hy⟩:∃ y,(tabP ps n)[j]?=some y:=⟨_,List.getElem?_eq_getElem (Nat.lt_of_lt_of_le (List.getElem?_eq_some_iff.1 e2).1 hlen)⟩
            have e:selR ps (n:Int) (k:Int) i=(y.2,0):=by
              unfold selR
              rw [hm]
              simp only
              rw [if_pos hv,if_pos hx,if_pos hs,e1,Int.toNat_natCast,Int.toNat_natCast,hy]
            rw [e]
            rw [e1] at hSl
            have e2:bldT ps (n:Int)=tabP ps n:=by rw [bldT,if_pos hv,Int.toNat_natCast]
            refine r13l_6 W b (n:Int) (k:Int) i (tabP ps n) j y hy hI hN hF hSl hX (fun w hb=>?_)
            have:=r13b_c (h.below hb) ht hJ hS hU hz (n:Int)
            rw [e2] at this
            exact this.mono fun e w' zz=>⟨by obtain ⟨v,h1,h2⟩:=zz.1;exact ⟨v,_,h1,h2⟩,zz.2⟩
        · have h6:(sloR ps c i).2=6:=by
            rw [sloR,hm] at hs ⊢
            simp only at hs ⊢
            split
            · rfl
            · rename_i hc
              rw [if_neg hc] at hs
              exact absurd rfl hs
          have e:selR ps r c i=((0,0),6):=by
            unfold selR
            rw [hm]
            simp only
            rw [if_pos hv]
            by_cases hx:extI ps r c=true
            · rw [if_pos hx,if_neg hs,h6]
            · rw [if_neg hx]
          rw [e]
          rw [h6] at hSl
          exact r13l_4 W b r c i _ 6 (by decide) hI hN hF hSl
theorem siz3:(bldT P3 0).length=2:=by kernel_rfl
theorem vck3:vckE P3 0=0:=by kernel_rfl
theorem Zmg (W:World) (HN:Hid (∀ w:World,Calls Tryz.prog 19 #[] w fun e w'=>∃ b,e=.returned (.pointer (some ⟨b,0,none⟩))∧WAt b P3 w'∧Below w.heap.size w w')) (HM:Hid (∀ (w:World) (b:Nat),WAt b P3 w→Calls Tryz.prog 11 #[.pointer (some ⟨b,0,none⟩),.int .i64 0] w fun e w'=>e=.returned (.tuple #[.int .i64 2,.int .i64 0])∧Below w.heap.size w w')):Calls Tryz.prog 6 #[] W fun e w'=>e=.returned (.bool true)∧Below W.heap.size W w':=by
  go_enter Tryz.func6,Tryz.ntmps6
  go_wp2_with (first
    | (go_at_call 19;refine (HN.out _).mono ?_;rintro e w1 ⟨b,rfl,hw,hb⟩;have H1:Hid (WAt b P3 w1):=hw;have B1:Hid (Below W.heap.size W w1):=hb;clear hw hb HN)
    | (go_at_call 11;refine (HM.out _ _ H1.out).mono ?_;rintro e w2 ⟨rfl,hb⟩;have B2:Hid (Below W.heap.size W w2):=Za B1.out hb;clear hb HM))
  all_goals exact bodyPost_ret (results_tmp rfl _ _ _) rfl ⟨rfl,B2.out⟩
theorem Zmh (W:World):Calls Tryz.prog 6 #[] W fun e w'=>e=.returned (.bool true)∧Below W.heap.size W w' :=
  Zmg W (fun w=>(Zlb w).mono fun e w' zz=>⟨_,zz.1,by obtain ⟨vp,pv,hw⟩:=zz.2.1;exact hw.wat,zz.2.2⟩) (fun w b h=>(siz_c h wi3 unqM3 0).mono fun e w' zz=>⟨by rw [zz.1,siz3,vck3];rfl,zz.2⟩)
theorem Zme (v:Value) (l:List Cls) (W:World) (h:Zat W v l):Calls Tryz.prog 7 #[v] W fun e w'=>(∃ b,e=.returned (.pointer (some ⟨b,0,none⟩))∧∃ mb vp pv,HW w' W.heap.size b mb (wld l) vp pv)∧Below W.heap.size W w':=by
  have hCW:=Zl6 h
  obtain ⟨ao,cap,rfl,h1,h2,h3⟩:=h
  unfold maxLen at h2
  obtain ⟨L,hL⟩:∃ L,l.length=L:=⟨_,rfl⟩
  have HL:Hid (l.length=L):=hL
  have HI:Hid _:=h3
  have HCW:Hid (∀ c∈l,ClsW c):=hCW
  rw [hL] at h1 ⊢
  clear hL h3 hCW
  have HN:Hid (∀ w:World,Calls Tryz.prog 19 #[] w fun e w'=>e=.returned (.pointer (some ⟨w.heap.size+1,0,none⟩))∧(∃ vp pv,HW w' w.heap.size (w.heap.size+1) w.heap.size P3 vp pv)∧Below w.heap.size w w'):=Zlb
  go_enter Tryz.func7,Tryz.ntmps7
  go_wp2_with (first
    | (go_at_call 19;refine (HN.out _).mono ?_;rintro e w2 ⟨rfl,hw,hb⟩;have H2:Hid (∃ vp pv,HW w2 W.heap.size (W.heap.size+1) W.heap.size P3 vp pv):=hw;have B2:Hid (Below W.heap.size W w2):=hb;clear hb hw HN))
  go_loopw [4] (fun iv wr=>∃ (i:Nat),iv=.int .i64 i∧i≤L∧Hid (∃ vp pv,HW wr W.heap.size (W.heap.size+1) W.heap.size (wld (l.take i)) vp pv)∧Hid (Below W.heap.size W wr)) (fun iv _=>L - (intOf iv).toNat)
  case atStart=>exact ⟨0,rfl,Nat.zero_le _,H2,B2⟩
  case round =>
    clear H2 B2
    obtain ⟨i,rfl,hi,hHW,hB⟩:=hrel
    by_cases hlt:i<L
    · obtain ⟨c,hc⟩:∃ c,l[i]?=some c:=⟨_,List.getElem?_eq_getElem (by rw [HL.out];exact hlt)⟩
      obtain ⟨bk,o,rfl,hbk,hcl⟩:=HI.out (fun e=>by rw [e] at hc;simp at hc)
      obtain ⟨vi,vm,hcell,hin⟩:=hcl i c hc
      have bel:Below W.heap.size W wr:=hB.out
      have p0:wr.cell? ⟨bk,o+i * 6,none⟩=some (.string c.nm):=(bel.cell (p:=⟨bk,o+i * 6,none⟩) hbk).trans (hcell 0 _ rfl)
      have p1:wr.cell? ⟨bk,o+i * 6+1,none⟩=some (.string c.su):=(bel.cell (p:=⟨bk,o+i * 6+1,none⟩) hbk).trans (hcell 1 _ rfl)
      have p2:wr.cell? ⟨bk,o+i * 6+2,none⟩=some vi:=(bel.cell (p:=⟨bk,o+i * 6+2,none⟩) hbk).trans (hcell 2 _ rfl)
      have p3:wr.cell? ⟨bk,o+i * 6+3,none⟩=some (.int .i64 c.fl):=(bel.cell (p:=⟨bk,o+i * 6+3,none⟩) hbk).trans (hcell 3 _ rfl)
      have p4:wr.cell? ⟨bk,o+i * 6+4,none⟩=some (.int .i64 c.ld):=(bel.cell (p:=⟨bk,o+i * 6+4,none⟩) hbk).trans (hcell 4 _ rfl)
      have p5:wr.cell? ⟨bk,o+i * 6+5,none⟩=some vm:=(bel.cell (p:=⟨bk,o+i * 6+5,none⟩) hbk).trans (hcell 5 _ rfl)
      have hWI:WI (wld (l.take i)):=Zjz _ (fun c hc=>HCW.out c (List.mem_of_mem_take hc))
      have HD:Hid (Calls Tryz.prog 20 #[.pointer (some ⟨W.heap.size+1,0,none⟩),.agg #[.string c.nm,.string c.su,vi,.int .i64 c.fl,.int .i64 c.ld,vm]] wr fun e w'=>(∃ u,e=.returned u)∧Hid (∃ vp pv,HW w' W.heap.size (W.heap.size+1) W.heap.size (wld (l.take (i+1))) vp pv)∧Hid (Below W.heap.size W w')):=by
        obtain ⟨vp,pv,hw⟩:=hHW.out
        refine (Zjr W.heap.size (W.heap.size+1) W.heap.size _ vp pv c vi vm wr hw hB.out.size (hin.keep bel) hWI.nm).mono ?_
        rintro e w' ⟨rfl,hw',hb',_⟩
        rw [wld_at hc]
        exact ⟨⟨_,rfl⟩,hw',hB.out.trans hb'⟩
      clear hcl hcell hin hc bel hWI hHW hB HI
      go_wp2_with (go_at_call 20;refine HD.out.mono ?_;rintro e w3 ⟨⟨u3,rfl⟩,hw3,hb3⟩;clear HD)
      go_roundw
      case rel=>exact ⟨i+1,by go_num,by omega,hw3,hb3⟩
      case measure=>simp [intOf];omega
    · have e:i=L:=by omega
      subst e
      have HF:Hid (∃ mb vp pv,HW wr W.heap.size (W.heap.size+1) mb (wld l) vp pv):=by
        obtain ⟨vp,pv,hw⟩:=hHW.out
        rw [List.take_of_length_le (by rw [HL.out];exact Nat.le_refl _)] at hw
        exact ⟨_,_,_,hw⟩
      clear hHW HI
      go_wp2
      exact bodyPost_ret (results_tmp rfl _ _ _) rfl ⟨⟨_,rfl,HF.out⟩,hB.out⟩
theorem Zb9 (v:Value) (l:List Cls) (r a1 a2:Int) (W:World) (h:Zat W v l):Calls Tryz.prog 4 #[v,.int .i64 r,.agg #[.int .i64 a1,.int .i64 a2]] W fun e w'=>e=.returned (.bool true)∧Below W.heap.size W w':=by
  have hCW:=Zl6 h
  obtain ⟨hWI,hWJ⟩:=wld_wj l hCW
  have hT:=twW l hCW
  have hS:=sndI_wld l hCW
  have hU:=unqM_wld l hCW
  have hz:=hT.tw.sz hT.wi
  obtain ⟨ps,hps⟩:∃ ps,ps=wld l:=⟨_,rfl⟩
  obtain ⟨cs,hcs⟩:∃ cs,cs=wldC l:=⟨_,rfl⟩
  rw [← hps] at hWI hWJ hT hS hU
  rw [← hcs] at hT hz
  have HA:Hid (∀ w:World,Calls Tryz.prog 6 #[] w fun e w'=>e=.returned (.bool true)∧Below w.heap.size w w'):=Zmh
  have HB:Hid (∀ w:World,Below W.heap.size W w→Calls Tryz.prog 7 #[v] w fun e w'=>(∃ b,e=.returned (.pointer (some ⟨b,0,none⟩))∧WAt b ps w')∧Below w.heap.size w w'):=fun w hb=>by
    rw [hps]
    exact (Zme v l w (Zgp h hb)).mono fun e w' zz=>⟨by obtain ⟨b,e1,mb,vp,pv,hw⟩:=zz.1;exact ⟨b,e1,hw.wat⟩,zz.2⟩
  have HO:Hid (∀ w:World,Below W.heap.size W w→Calls Tryz.prog 8 #[v] w fun e w'=>(∃ b,e=.returned (.pointer (some ⟨b,0,none⟩))∧RAt b cs w')∧Below w.heap.size w w'):=fun w hb=>by rw [hcs];exact of_c v l w (Zgp h hb)
  have F1:Hid (∀ b w,WAt b ps w→Calls Tryz.prog 14 #[.pointer (some ⟨b,0,none⟩),.agg #[.int .i64 a1,.int .i64 a2]] w fun e w'=>e=.returned (.tuple #[.int .i64 (sloR ps a1 a2).1,.int .i64 (sloR ps a1 a2).2])∧Below w.heap.size w w'):=fun b w hw=>slo_c hw hWI hU a1 a2
  have F2:Hid (∀ b w,RAt b cs w→Calls Tryz.prog 15 #[.pointer (some ⟨b,0,none⟩),.agg #[.int .i64 a1,.int .i64 a2]] w fun e w'=>e=.returned (.tuple #[.int .i64 (sloR ps a1 a2).1,.int .i64 (sloR ps a1 a2).2])∧Below w.heap.size w w'):=fun b w hw=>r13s_c hw hT hWJ hS hU hz a1 a2
  have Z1:Hid (∀ b w,WAt b ps w→Calls Tryz.prog 16 #[.pointer (some ⟨b,0,none⟩),.int .i64 r,.agg #[.int .i64 a1,.int .i64 a2]] w fun e w'=>e=.returned (selE (selR ps r a1 a2))∧Below w.heap.size w w'):=fun b w hw=>sel_c hw hWI hU r a1 a2
  have Z2:Hid (∀ b w,RAt b cs w→Calls Tryz.prog 17 #[.pointer (some ⟨b,0,none⟩),.int .i64 r,.agg #[.int .i64 a1,.int .i64 a2]] w fun e w'=>e=.returned (selE (selR ps r a1 a2))∧Below w.heap.size w w'):=fun b w hw=>r13l_c hw hT hWJ hS hU hz r a1 a2
  generalize sloR ps a1 a2=FF at *
  obtain ⟨f1,f2⟩:=FF
  generalize selR ps r a1 a2=LL at *
  obtain ⟨⟨y1,y2⟩,y3⟩:=LL
  simp only [selE] at F1 F2 Z1 Z2
  have SI:Hid (∀ w:World,Calls Tryz.prog 18 #[.agg #[.int .i64 y1,.int .i64 y2],.agg #[.int .i64 y1,.int .i64 y2]] w fun e w'=>e=.returned (.bool true)∧Below w.heap.size w w'):=sido_c y1 y2
  clear h hCW hWI hWJ hT hS hU hz hps hcs
  have BB:Hid (Below W.heap.size W W):=Below.refl _ _
  go_enter Tryz.func4,Tryz.ntmps4
  go_wp2_with (first
    | (go_at_call 6;refine (HA.out _).mono ?_;rintro e w1 ⟨rfl,hb⟩;have mmd:=kp2 (n:=W.heap.size) hb (by first|omega|(simp;try omega)) (Zk _ _);(try clear mmB mm0 mm1 mmf mmL mmN);obtain ⟨mmB,mm0,mm1,mmf,mmL,mmN⟩:=mmd;have BB2:Below W.heap.size W w1:=Za (sqE BB) hb;clear BB;have BB:Hid (Below W.heap.size W w1):=BB2;clear HA;clear BB2 hb)
    | (go_at_call 7;refine (HB.out _ (sqE BB)).mono ?_;rintro e w2 ⟨⟨b,rfl,hw⟩,hb⟩;have mmd:=kp2 (n:=W.heap.size) hb (by first|omega|(simp;try omega)) (mmB.out);(try clear mmB mm0 mm1 mmf mmL mmN);obtain ⟨mmB,mm0,mm1,mmf,mmL,mmN⟩:=mmd;have BB2:Below W.heap.size W w2:=Za (sqE BB) hb;clear BB;have BB:Hid (Below W.heap.size W w2):=BB2;have HH:Hid (WAt b ps w2):=hw;clear hw HB;clear BB2 hb)
    | (go_at_call 8;refine (HO.out _ (sqE BB)).mono ?_;rintro e w3 ⟨⟨bx,rfl,hw⟩,hb⟩;have mmd:=kp2 (n:=W.heap.size) hb (by first|omega|(simp;try omega)) (mmB.out);(try clear mmB mm0 mm1 mmf mmL mmN);obtain ⟨mmB,mm0,mm1,mmf,mmL,mmN⟩:=mmd;have BB2:Below W.heap.size W w3:=Za (sqE BB) hb;clear BB;have BB:Hid (Below W.heap.size W w3):=BB2;have HH2:=(HH.out.below (w':=_) (by repeat (first|refine Below.setCell ?_ (by simp;try omega) _|refine Below.alloc ?_ (by simp;try omega) _|refine Below.drew ?_|exact Below.refl _ _))).below hb;clear HH;have HH:Hid (WAt b ps w3):=HH2;clear HH2;have HR:Hid (RAt bx cs w3):=hw;clear hw HO;clear BB2 hb)
    | (go_at_call 14;refine (F1.out _ _ HH.out).mono ?_;rintro e w4 ⟨rfl,hb⟩;have mmd:=kp2 (n:=W.heap.size) hb (by first|omega|(simp;try omega)) (mmB.out);(try clear mmB mm0 mm1 mmf mmL mmN);obtain ⟨mmB,mm0,mm1,mmf,mmL,mmN⟩:=mmd;have BB2:Below W.heap.size W w4:=Za (sqE BB) hb;clear BB;have BB:Hid (Below W.heap.size W w4):=BB2;have HH2:=(HH.out.below (w':=_) (by repeat (first|refine Below.setCell ?_ (by simp;try omega) _|refine Below.alloc ?_ (by simp;try omega) _|refine Below.drew ?_|exact Below.refl _ _))).below hb;clear HH;have HH:Hid (WAt b ps w4):=HH2;clear HH2;have HR2:=(HR.out.below (w':=_) (by repeat (first|refine Below.setCell ?_ (by simp;try omega) _|refine Below.alloc ?_ (by simp;try omega) _|refine Below.drew ?_|exact Below.refl _ _))).below hb;clear HR;have HR:Hid (RAt bx cs w4):=HR2;clear HR2;clear F1;clear BB2 hb)
    | (go_at_call 15;refine (F2.out _ _ HR.out).mono ?_;rintro e w5 ⟨rfl,hb⟩;have mmd:=kp2 (n:=W.heap.size) hb (by first|omega|(simp;try omega)) (mmB.out);(try clear mmB mm0 mm1 mmf mmL mmN);obtain ⟨mmB,mm0,mm1,mmf,mmL,mmN⟩:=mmd;have BB2:Below W.heap.size W w5:=Za (sqE BB) hb;clear BB;have BB:Hid (Below W.heap.size W w5):=BB2;have HH2:=(HH.out.below (w':=_) (by repeat (first|refine Below.setCell ?_ (by simp;try omega) _|refine Below.alloc ?_ (by simp;try omega) _|refine Below.drew ?_|exact Below.refl _ _))).below hb;clear HH;have HH:Hid (WAt b ps w5):=HH2;clear HH2;have HR2:=(HR.out.below (w':=_) (by repeat (first|refine Below.setCell ?_ (by simp;try omega) _|refine Below.alloc ?_ (by simp;try omega) _|refine Below.drew ?_|exact Below.refl _ _))).below hb;clear HR;have HR:Hid (RAt bx cs w5):=HR2;clear HR2;clear F2;clear BB2 hb)
    | (go_at_call 16;refine (Z1.out _ _ HH.out).mono ?_;rintro e w6 ⟨rfl,hb⟩;have mmd:=kp2 (n:=W.heap.size) hb (by first|omega|(simp;try omega)) (mmB.out);(try clear mmB mm0 mm1 mmf mmL mmN);obtain ⟨mmB,mm0,mm1,mmf,mmL,mmN⟩:=mmd;have BB2:Below W.heap.size W w6:=Za (sqE BB) hb;clear BB;have BB:Hid (Below W.heap.size W w6):=BB2;have HR2:=(HR.out.below (w':=_) (by repeat (first|refine Below.setCell ?_ (by simp;try omega) _|refine Below.alloc ?_ (by simp;try omega) _|refine Below.drew ?_|exact Below.refl _ _))).below hb;clear HR;have HR:Hid (RAt bx cs w6):=HR2;clear HR2;clear Z1;clear BB2 hb)
    | (go_at_call 17;refine (Z2.out _ _ (HR.out.below (by repeat (first|refine Below.setCell ?_ (by simp;try omega) _|refine Below.alloc ?_ (by simp;try omega) _|refine Below.drew ?_|exact Below.refl _ _)))).mono ?_;rintro e w7 ⟨rfl,hb⟩;have qad:=kp2 (n:=w6.heap.size) hb (by first|omega|(simp;try omega)) (Zk _ _);(try clear qaB qa0 qa1 qaf qaL qaN);obtain ⟨qaB,qa0,qa1,qaf,qaL,qaN⟩:=qad;have BB2:Below W.heap.size W w7:=Za (sqE BB) hb;clear BB;have BB:Hid (Below W.heap.size W w7):=BB2;clear Z2;clear BB2 hb)
    | (go_at_call 18;refine (SI.out _).mono ?_;rintro e w8 ⟨rfl,hb⟩;have BB2:Below W.heap.size W w8:=Za (sqE BB) hb;clear BB;have BB:Hid (Below W.heap.size W w8):=BB2;clear SI;clear BB2 hb))
  all_goals go_ret
  all_goals exact ⟨retB (by simp),BB.out⟩
end Go.Proofs.YtjbmmmcjegjelaaGreat
