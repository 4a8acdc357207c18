import Derived.Test.YtjbmmmcjegjelaaGreatSdB
import Derived.Test.YtjbmmmcjegjelaaGreatVtD
import Derived.Test.YtjbmmmcjegjelaaGreatLcQ
import Derived.Test.YtjbmmmcjegjelaaGreatRnF
import Derived.Test.YtjbmmmcjegjelaaGreatRfB
import Derived.Test.YtjbmmmcjegjelaaGreatHrQ
import Derived.Deep.AppendLies
import Derived.Lib.SmallJoins
import Derived.Deep.RegionHeld3
import Derived.Test.YtjbmmmcjegjelaaGreatSq
set_option maxHeartbeats 8000000
set_option maxRecDepth 100000
namespace Go.Proofs.YtjbmmmcjegjelaaGreat
open Go.RowKit Go.Maps
theorem Zjd (l:List Sl) (x:Sl):Yu (l++[x])=Yu l++[.int .i64 x.1.1,.int .i64 x.1.2,.int .i64 x.2.1,.int .i64 x.2.2]:=by simp [Yu]
theorem Zkn (W:World) (b:Nat) (x E:Int) (f g:Bool) (hE:(f=false∧E=3)∨(f=true∧g=true∧E=23)) (HI:Hid (∀ w,Below W.heap.size W w→Calls Tryz.prog 25 #[.pointer (some ⟨b,0,none⟩),.int .i64 x] w fun e w'=>e=.returned (.bool f)∧w'=w)) (HF:Hid (∀ w,Below W.heap.size W w→Calls Tryz.prog 26 #[.pointer (some ⟨b,0,none⟩),.int .i64 x] w fun e w'=>e=.returned (.bool g)∧w'=w)):Calls Tryz.prog 10 #[.pointer (some ⟨b,0,none⟩),.int .i64 x] W fun e w'=>e=.returned (.tuple #[.slice none 0 0,.int .i64 E])∧Below W.heap.size W w':=by
  go_enter Tryz.func10,Tryz.ntmps10
  rcases hE with ⟨rfl,rfl⟩|⟨rfl,rfl,rfl⟩
  all_goals
    go_wp2_with (first|(go_at_call 25;refine (HI.out _ (Below.refl _ _)).mono ?_;rintro e w9 ⟨rfl,hw9⟩;rw [hw9];clear hw9 w9 HI)|(go_at_call 26;refine (HF.out _ (Below.refl _ _)).mono ?_;rintro e w9 ⟨rfl,hw9⟩;rw [hw9];clear hw9 w9 HF))
    exact bodyPost_ret (results_tmp2 rfl _ _ _) rfl ⟨rfl,Below.refl _ _⟩
theorem r13b_yes (W:World) (b k:Nat) (T:List Sl) (n:Nat) (HTL:Hid (T.length=n)) (hn:n≤300000000) (HI:Hid (∀ w,Below W.heap.size W w→Calls Tryz.prog 25 #[.pointer (some ⟨b,0,none⟩),.int .i64 (k:Int)] w fun e w'=>e=.returned (.bool true)∧w'=w)) (HG:Hid (∀ w,Below W.heap.size W w→Calls Tryz.prog 26 #[.pointer (some ⟨b,0,none⟩),.int .i64 (k:Int)] w fun e w'=>e=.returned (.bool false)∧w'=w))
    (HR:Hid (∀ w,Below W.heap.size W w→Calls Tryz.prog 27 #[.pointer (some ⟨b,0,none⟩),.int .i64 (k:Int)] w fun e w'=>(∃ v,e=.returned v∧w'.ownsRow w.heap.size 39 2 v n (Zm (T.map Prod.fst)))∧Below w.heap.size w w'))
    (HF:Hid (∀ (j:Nat) (x:Sl),T[j]?=some x→∀ w,Below W.heap.size W w→Calls Tryz.prog 28 #[.pointer (some ⟨b,0,none⟩),.int .i64 (k:Int),.agg #[.int .i64 x.1.1,.int .i64 x.1.2]] w fun e w'=>e=.returned (.tuple #[.agg #[.int .i64 x.2.1,.int .i64 x.2.2],.int .i64 0])∧Below w.heap.size w w')) :
    Calls Tryz.prog 10 #[.pointer (some ⟨b,0,none⟩),.int .i64 (k:Int)] W fun e w'=>(∃ v,e=.returned (.tuple #[v,.int .i64 0])∧w'.ownsRow W.heap.size 48 4 v T.length (Yu T))∧Below W.heap.size W w':=by
  obtain ⟨i0,hi0,hz0,hz1,hz2⟩:=info_parts Tryz.hinfoS4
  go_enter Tryz.func10,Tryz.ntmps10
  go_wp2_with (first|(go_at_call 25;refine (HI.out _ (Below.refl _ _)).mono ?_;rintro e w9 ⟨rfl,hw9⟩;rw [hw9];clear hw9 w9 HI)|(go_at_call 26;refine (HG.out _ (Below.refl _ _)).mono ?_;rintro e w9 ⟨rfl,hw9⟩;rw [hw9];clear hw9 w9 HG)|(go_at_call 27;refine (HR.out _ (Below.refl _ _)).mono ?_;rintro e V ⟨⟨v0,rfl,ho⟩,hb⟩;obtain ⟨aa,ca,rfl⟩:=ownv ho;have RAB:Hid (Rds V (.slice aa n ca) n 2 (Zm (T.map Prod.fst))):=Z2 ho;have BV:Hid (Below W.heap.size W V):=hb;clear ho hb HR))
  go_loopw [7,8] (fun sv iv wr=>∃ i:Nat,iv=.int .i64 i∧i≤n∧Hid (wr.ownsRow V.heap.size 48 4 sv i (Yu (T.take i)))∧Hid (Below V.heap.size V wr)) (fun _ iv _=>n - (intOf iv).toNat)
  case atStart=>exact ⟨0,rfl,Nat.zero_le _,World.ownsRow_nil _ _ _ _,Below.refl _ _⟩
  case round =>
    obtain ⟨i,rfl,hi,hO,hB⟩:=hrel
    by_cases hlt:i<n
    · have hiI:(i:Int)<(n:Int):=by omega
      obtain ⟨x,hx⟩:∃ x,T[i]?=some x:=⟨_,List.getElem?_eq_getElem (by rw [HTL.out];exact hlt)⟩
      obtain ⟨g2,o2,hg2,cx0,cx1⟩:=rab_at RAB.out (j:=i) (R:=x.1) (by rw [List.getElem?_map,hx];rfl)
      subst hg2
      have g2V:g2<V.heap.size:=cx0.1
      have g2r:g2<wr.heap.size:=Nat.lt_of_lt_of_le g2V hB.out.size
      have g2n:¬ g2=wr.heap.size:=by omega
      have cy0:wr.cell? ⟨g2,o2+i * 2,none⟩=some (.int .i64 x.1.1):=(hB.out.cell (p:=⟨g2,o2+i * 2,none⟩) g2V).trans cx0.2
      have cy1:wr.cell? ⟨g2,o2+i * 2+1,none⟩=some (.int .i64 x.1.2):=(hB.out.cell (p:=⟨g2,o2+i * 2+1,none⟩) g2V).trans cx1
      have HFi:Hid (∀ w,Below W.heap.size W w→Calls Tryz.prog 28 #[.pointer (some ⟨b,0,none⟩),.int .i64 (k:Int),.agg #[.int .i64 x.1.1,.int .i64 x.1.2]] w fun e w'=>e=.returned (.tuple #[.agg #[.int .i64 x.2.1,.int .i64 x.2.2],.int .i64 0])∧Below w.heap.size w w'):=HF.out i x hx
      have HST:Hid (Yu (T.take (i+1))=Yu (T.take i)++[.int .i64 x.1.1,.int .i64 x.1.2,.int .i64 x.2.1,.int .i64 x.2.2]):=by
        rw [List.take_add_one,hx,Option.toList_some];exact Zjd _ _
      have CX:Hid (V.cell? ⟨g2,o2+i * 2,none⟩=some (.int .i64 x.1.1)∧V.cell? ⟨g2,o2+i * 2+1,none⟩=some (.int .i64 x.1.2)):=⟨cx0.2,cx1⟩
      obtain ⟨ta,tc,rfl⟩:=ownv hO.out
      clear hx cx0 cx1
      go_wp2_with (go_at_call 28;refine (HFi.out _ (Zc BV.out hB.out)).mono ?_;rintro e w2 ⟨rfl,hb⟩;have OL:Hid (w2.ownsRow V.heap.size 48 4 (.slice ta i tc) i (Yu (T.take i))):=Za hO.out hb;have B2:Hid (Below V.heap.size V w2):=Zc hB.out hb;clear hb HFi cy0 cy1)
      have bU:Below V.heap.size V (w2.alloc (.cells #[.int .i64 x.2.1,.int .i64 x.2.2] 39)):=B2.out.alloc B2.out.size _
      have hU0:(w2.alloc (.cells #[.int .i64 x.2.1,.int .i64 x.2.2] 39)).heap[w2.heap.size]?=some (.cells #[.int .i64 x.2.1,.int .i64 x.2.2] 39 (0,0)):=Zl _ _
      have hUs:(w2.alloc (.cells #[.int .i64 x.2.1,.int .i64 x.2.2] 39)).heap.size=w2.heap.size+1:=by simp
      have OU:Hid ((w2.alloc (.cells #[.int .i64 x.2.1,.int .i64 x.2.2] 39)).ownsRow V.heap.size 48 4 (.slice ta i tc) i (Yu (T.take i))):=OL.out.alloc _
      have hw2:V.heap.size≤w2.heap.size:=B2.out.size
      generalize (w2.alloc (.cells #[.int .i64 x.2.1,.int .i64 x.2.2] 39))=U at *
      have BU:Hid (Below V.heap.size V U):=bU
      have cz0:U.cell? ⟨g2,o2+i * 2,none⟩=some (.int .i64 x.1.1):=(bU.cell (p:=⟨g2,o2+i * 2,none⟩) g2V).trans CX.out.1
      have cz1:U.cell? ⟨g2,o2+i * 2+1,none⟩=some (.int .i64 x.1.2):=(bU.cell (p:=⟨g2,o2+i * 2+1,none⟩) g2V).trans CX.out.2
      obtain ⟨m0,m1,mf,mL⟩:=rw2 hU0
      have mN:¬ w2.heap.size=U.heap.size:=by omega
      have gN:¬ g2=U.heap.size:=by omega
      have gL:g2<U.heap.size:=by omega
      clear bU hU0 OL B2
      go_upto_region 11 with fail
      go_region_law (refine step_append_lies _ rfl (.tmp 37) (.tmp 44) 28 rfl V.heap.size 48 i0 (.agg #[.int .i64 0,.int .i64 0,.int .i64 0,.int .i64 0]) 4 32 Tryz.underlying28 hi0 hz0 hz1 hz2 rfl (by decide) (.slice ta i tc) i (Yu (T.take i)) (by simp [Act.eval]) ((OU.out.drew).alloc _) ⟨U.heap.size,0,none⟩ 1 1 [.int .i64 x.1.1,.int .i64 x.1.2,.int .i64 x.2.1,.int .i64 x.2.2] (by simp [Act.eval]) rfl (World.news_of_block (heap_alloc_new _ _)) ?_ (by decide) ?_ ?_ ?_ _ rfl ?_;(intro u hu;simp at hu;rcases hu with rfl|rfl|rfl|rfl <;> rfl);(unfold maxLen;omega);omega;(simp;omega);intro g5 cap5 w5 hown hgrow _ _;have O5:Hid (w5.ownsRow V.heap.size 48 4 (.slice (some ⟨g5,0,none⟩) (i+1) cap5) (i+1) (Yu (T.take i)++[.int .i64 x.1.1,.int .i64 x.1.2,.int .i64 x.2.1,.int .i64 x.2.2])):=hown;have B5:Hid (Below V.heap.size V w5):=(by refine Below.grown (BU.out.drew.alloc (by simpa using BU.out.size) _) hgrow (by have:=BU.out.size;simp;omega) (fun z hz=>?_);exact (OU.out.lt z hz).1);clear hown hgrow)
      all_goals go_wp2
      all_goals exact ⟨⟨i+1,by simp,by omega,(by rw [HST.out];exact O5),B5⟩,by simp [intOf];omega⟩
    · have e:i=n:=by omega
      subst e
      rw [List.take_of_length_le (by rw [HTL.out];exact Nat.le_refl _)] at hO
      obtain ⟨ta,tc,e9⟩:=ownv hO.out
      go_wp2
      exact bodyPost_ret (results_tmp2 rfl _ _ _) rfl ⟨⟨_,rfl,(by rw [HTL.out];exact Go.Joins.ownsRow_le hO.out BV.out.size)⟩,Zc BV.out hB.out⟩
theorem r13rts_c {cs:List Cls} {ps:List Plc} (ht:TwW cs ps) (hJ:WJ ps) (hS:SndI ps) (hU:UnqM ps) (hz:∀ c∈cs,c.nm.size≤maxLen):∀ (k:Nat) (q:Plc),ps[k]?=some q→ifcI ps (k:Int)=false→∀ (b:Nat) (W:World),RAt b cs W→Calls Tryz.prog 27 #[.pointer (some ⟨b,0,none⟩),.int .i64 (k:Int)] W fun e w'=>(∃ v,e=.returned v∧w'.ownsRow W.heap.size 39 2 v (rtsD ps k).length (Zm (rtsD ps k)))∧Below W.heap.size W w':=by
  intro k
  induction k using Nat.strongRecOn with
  | ind k ih =>
    intro q hq hif b W h
    have hW:=ht.wi
    have hkl:k<ps.length:=(List.getElem?_eq_some_iff.1 hq).1
    obtain ⟨c,hc,hqc⟩:=ht.tw.at' hq
    have hms:q.c.ms=c.ms.map hmOf:=by rw [hqc];rfl
    obtain ⟨g,cap,vi,vm,b0,hbl,hgl,_,_,_,_,_,c5,_,hMs⟩:=RAt.cells h hc
    obtain ⟨am,cm,rfl,m1,m2,m3⟩:=hMs
    have hkc:k<cs.length:=(List.getElem?_eq_some_iff.1 hc).1
    have hn:c.ms.length≤1000000:=by
      have:=Zkz hW k
      rw [Zk0 hq,hms,List.length_map] at this
      exact this
    have HMS:∀ (j:Nat) (m:HM),q.c.ms[j]?=some m→∃ bk o,am=some ⟨bk,o,none⟩∧bk<W.heap.size∧W.cell? ⟨bk,o+j * 6+2,none⟩=some (.int .i64 m.fl):=fun j m hm=>by
      rw [hms,List.getElem?_map] at hm
      cases e:c.ms[j]? with
      | none=>rw [e] at hm;cases hm
      | some y =>
        rw [e] at hm
        cases hm
        obtain ⟨bk,o,rfl,hbk,hat⟩:=m3 (by intro h0;rw [h0] at e;simp at e)
        exact ⟨bk,o,rfl,hbk,(hat j y e).2.2.1⟩
    have HV:∀ (j:Nat) (m:HM),q.c.ms[j]?=some m→∀ w,Below W.heap.size W w→Calls Tryz.prog 36 #[.pointer (some ⟨b,0,none⟩),.agg #[.int .i64 (k:Int),.int .i64 (j:Int)]] w fun e w'=>e=.returned (.bool (vrtB m.nm m.fl))∧Below w.heap.size w w':=fun j m hm w hb=>by
      have:=r13vir_c (h.below hb) ht (k:Int) (j:Int) m (Jn hq hm)
      rw [vrI,hif] at this
      exact this
    have HO:∀ (ab:List (Int×Int)) (j:Nat) (m:HM),q.c.ms[j]?=some m→∀ R∈ab,∀ w,Below W.heap.size W w→Calls Tryz.prog 54 #[.pointer (some ⟨b,0,none⟩),.agg #[.int .i64 (k:Int),.int .i64 (j:Int)],.agg #[.int .i64 R.1,.int .i64 R.2]] w fun e w'=>(∃ E:Int,e=.returned (.tuple #[.bool (ovrI ps ((k:Int),(j:Int)) R).1,.int .i64 E]))∧Below w.heap.size w w':=fun ab j m hm R hR w hb =>
      (r9Over_c (h.below hb) ht hJ hS hU hz (k:Int) (j:Int) R.1 R.2).mono fun e w' zz=>⟨⟨_,zz.1⟩,zz.2⟩
    have hnl:q.c.ms.length=c.ms.length:=by rw [hms,List.length_map]
    by_cases h0:k=0
    · subst h0
      rw [Zjz hW hU hq]
      exact rts_0 ps W b g cs.length cap am c.ms.length cm q.c.ms [] rfl b0 hbl hgl (by omega) c5 hn hnl HMS HV (HO [])
    · obtain ⟨hs,e⟩:=Zj0 hW hU hq (by omega)
      rw [e]
      obtain ⟨qs,hqs⟩:∃ qs,ps[spO (ps.map nd) k]?=some qs:=⟨_,List.getElem?_eq_getElem (by omega)⟩
      have hsp:spO (ps.map nd) k=q.sp:=by rw [spO,nd_at' hq];rfl
      have hifs:ifcI ps ((spO (ps.map nd) k:Nat):Int)=false:=by
        have h2:=(hW.wo.sp k (nd q) (by omega) (nd_at' hq)).2.1 (nd qs) (by rw [hsp] at hqs;exact nd_at' hqs)
        rw [ifcI,Z8,hqs]
        exact h2.1
      refine rts_s ps W b g cs.length cap k am c.ms.length cm q.c.ms (rtsD ps (spO (ps.map nd) k)) (rtsD ps (spO (ps.map nd) k)).length rfl (rts_len hW (by omega)) (spO (ps.map nd) k) (by omega) (fun w hb=>?_) (fun w hb=>ih _ hs qs hqs hifs b w (h.below hb)) b0 hbl hgl (by omega) c5 hn hnl HMS HV (HO _)
      have:=rSup_c (h.below hb) ht (k:Int)
      rw [supI,Z8,hq] at this
      simp only [show ¬ ((k:Int)=0) by omega,if_false] at this
      rw [hsp]
      exact this
theorem r13b_c {b:Nat} {cs:List Cls} {ps:List Plc} {W:World} (h:RAt b cs W) (ht:TwW cs ps) (hJ:WJ ps) (hS:SndI ps) (hU:UnqM ps) (hz:∀ c∈cs,c.nm.size≤maxLen) (x:Int):Calls Tryz.prog 10 #[.pointer (some ⟨b,0,none⟩),.int .i64 x] W fun e w'=>(∃ v,e=.returned (.tuple #[v,.int .i64 (vckE ps x)])∧w'.ownsRow W.heap.size 48 4 v (bldT ps x).length (Yu (bldT ps x)))∧Below W.heap.size W w':=by
  have HF:∀ w,Below W.heap.size W w→Calls Tryz.prog 26 #[.pointer (some ⟨b,0,none⟩),.int .i64 x] w fun e w'=>e=.returned (.bool (ifcI ps x))∧w'=w:=fun w hb=>by
    have:=Xb (h.below hb) x
    rw [Zbk ht] at this
    exact this
  rcases Zn ps x with ⟨hn,_⟩|⟨k,q,rfl,hk,hq⟩
  · have e1:vckE ps x=3:=by rw [vckE,hn]
    have e2:bldT ps x=[]:=by rw [bldT,e1];rfl
    rw [e1,e2]
    refine (Zkn W b x 3 false (ifcI ps x) (.inl ⟨rfl,rfl⟩) (fun w hb=>?_) HF).mono fun e w' zz=>⟨⟨_,zz.1,World.ownsRow_nil _ _ _ _⟩,zz.2⟩
    have:=Zbb (h.below hb) ht x
    rw [hn] at this
    exact this
  · have HI:∀ w,Below W.heap.size W w→Calls Tryz.prog 25 #[.pointer (some ⟨b,0,none⟩),.int .i64 (k:Int)] w fun e w'=>e=.returned (.bool true)∧w'=w:=fun w hb=>by
      have:=Zbb (h.below hb) ht (k:Int)
      rw [hq] at this
      exact this
    cases hf:ifcI ps (k:Int) with
    | true =>
      have e1:vckE ps (k:Int)=23:=by rw [vckE,hq];simp only;rw [hf];rfl
      have e2:bldT ps (k:Int)=[]:=by rw [bldT,e1];rfl
      rw [e1,e2]
      refine (Zkn W b k 23 true true (.inr ⟨rfl,rfl,rfl⟩) HI (fun w hb=>?_)).mono fun e w' zz=>⟨⟨_,zz.1,World.ownsRow_nil _ _ _ _⟩,zz.2⟩
      have:=HF w hb
      rw [hf] at this
      exact this
    | false =>
      have e1:vckE ps (k:Int)=0:=by rw [vckE,hq];simp only;rw [hf];rfl
      have e2:bldT ps (k:Int)=tabP ps k:=by rw [bldT,e1];rfl
      rw [e1,e2]
      refine r13b_yes W b k (tabP ps k) _ rfl (Zc9 ht.wi (List.getElem?_eq_some_iff.1 hk).1) HI (fun w hb=>?_) (fun w hb=>?_) (fun j y hy w hb=>?_)
      · have:=HF w hb
        rw [hf] at this
        exact this
      · have:=r13rts_c ht hJ hS hU hz k q hk hf b w (h.below hb)
        rw [rtsD,List.length_map] at this
        exact this
      · have:=Zkm (h.below hb) ht hJ hS hU hz (k:Int) y.1.1 y.1.2
        rw [show (y.1.1,y.1.2)=y.1 from rfl,Zjy ht.wi hU hk (List.mem_of_getElem? hy)] at this
        exact this
theorem siz3:(bldT P3 0).length=2:=by kernel_rfl
theorem vck3:vckE P3 0=0:=by kernel_rfl
theorem Zl4 (W:World) (HN:Hid (∀ w:World,Calls Tryz.prog 19 #[] w fun e w'=>∃ b,e=.returned (.pointer (some ⟨b,0,none⟩))∧WAt b P3 w'∧Below w.heap.size w w')) (HM:Hid (∀ (w:World) (b:Nat),WAt b P3 w→Calls Tryz.prog 11 #[.pointer (some ⟨b,0,none⟩),.int .i64 0] w fun e w'=>e=.returned (.tuple #[.int .i64 2,.int .i64 0])∧Below w.heap.size w w')):Calls Tryz.prog 6 #[] W fun e w'=>e=.returned (.bool true)∧Below W.heap.size W w':=by
  go_enter Tryz.func6,Tryz.ntmps6
  go_wp2_with (first
    | (go_at_call 19;refine (HN.out _).mono ?_;rintro e w1 ⟨b,rfl,hw,hb⟩;have H1:Hid (WAt b P3 w1):=hw;have B1:Hid (Below W.heap.size W w1):=hb;clear hw hb HN)
    | (go_at_call 11;refine (HM.out _ _ H1.out).mono ?_;rintro e w2 ⟨rfl,hb⟩;have B2:Hid (Below W.heap.size W w2):=Zc B1.out hb;clear hb HM))
  all_goals exact bodyPost_ret (results_tmp rfl _ _ _) rfl ⟨rfl,B2.out⟩
theorem Zl5 (W:World):Calls Tryz.prog 6 #[] W fun e w'=>e=.returned (.bool true)∧Below W.heap.size W w' :=
  Zl4 W (fun w=>(Zkx w).mono fun e w' zz=>⟨_,zz.1,by obtain ⟨vp,pv,hw⟩:=zz.2.1;exact hw.wat,zz.2.2⟩) (fun w b h=>(siz_c h wi3 unqM3 0).mono fun e w' zz=>⟨by rw [zz.1,siz3,vck3];rfl,zz.2⟩)
theorem Zl2 (v:Value) (l:List Cls) (W:World) (h:Zao W v l):Calls Tryz.prog 7 #[v] W fun e w'=>(∃ b,e=.returned (.pointer (some ⟨b,0,none⟩))∧∃ mb vp pv,HW w' W.heap.size b mb (wld l) vp pv)∧Below W.heap.size W w':=by
  have hCW:=Zlt h
  obtain ⟨ao,cap,rfl,h1,h2,h3⟩:=h
  unfold maxLen at h2
  obtain ⟨L,hL⟩:∃ L,l.length=L:=⟨_,rfl⟩
  have HL:Hid (l.length=L):=hL
  have HI:Hid _:=h3
  have HCW:Hid (∀ c∈l,ClsW c):=hCW
  rw [hL] at h1 ⊢
  clear hL h3 hCW
  have HN:Hid (∀ w:World,Calls Tryz.prog 19 #[] w fun e w'=>e=.returned (.pointer (some ⟨w.heap.size+1,0,none⟩))∧(∃ vp pv,HW w' w.heap.size (w.heap.size+1) w.heap.size P3 vp pv)∧Below w.heap.size w w'):=Zkx
  go_enter Tryz.func7,Tryz.ntmps7
  go_wp2_with (first
    | (go_at_call 19;refine (HN.out _).mono ?_;rintro e w2 ⟨rfl,hw,hb⟩;have H2:Hid (∃ vp pv,HW w2 W.heap.size (W.heap.size+1) W.heap.size P3 vp pv):=hw;have B2:Hid (Below W.heap.size W w2):=hb;clear hb hw HN))
  go_loopw [4] (fun iv wr=>∃ (i:Nat),iv=.int .i64 i∧i≤L∧Hid (∃ vp pv,HW wr W.heap.size (W.heap.size+1) W.heap.size (wld (l.take i)) vp pv)∧Hid (Below W.heap.size W wr)) (fun iv _=>L - (intOf iv).toNat)
  case atStart=>exact ⟨0,rfl,Nat.zero_le _,H2,B2⟩
  case round =>
    clear H2 B2
    obtain ⟨i,rfl,hi,hHW,hB⟩:=hrel
    by_cases hlt:i<L
    · obtain ⟨c,hc⟩:∃ c,l[i]?=some c:=⟨_,List.getElem?_eq_getElem (by rw [HL.out];exact hlt)⟩
      obtain ⟨bk,o,rfl,hbk,hcl⟩:=HI.out (fun e=>by rw [e] at hc;simp at hc)
      obtain ⟨vi,vm,hcell,hin⟩:=hcl i c hc
      have bel:Below W.heap.size W wr:=hB.out
      have p0:wr.cell? ⟨bk,o+i * 6,none⟩=some (.string c.nm):=(bel.cell (p:=⟨bk,o+i * 6,none⟩) hbk).trans (hcell 0 _ rfl)
      have p1:wr.cell? ⟨bk,o+i * 6+1,none⟩=some (.string c.su):=(bel.cell (p:=⟨bk,o+i * 6+1,none⟩) hbk).trans (hcell 1 _ rfl)
      have p2:wr.cell? ⟨bk,o+i * 6+2,none⟩=some vi:=(bel.cell (p:=⟨bk,o+i * 6+2,none⟩) hbk).trans (hcell 2 _ rfl)
      have p3:wr.cell? ⟨bk,o+i * 6+3,none⟩=some (.int .i64 c.fl):=(bel.cell (p:=⟨bk,o+i * 6+3,none⟩) hbk).trans (hcell 3 _ rfl)
      have p4:wr.cell? ⟨bk,o+i * 6+4,none⟩=some (.int .i64 c.ld):=(bel.cell (p:=⟨bk,o+i * 6+4,none⟩) hbk).trans (hcell 4 _ rfl)
      have p5:wr.cell? ⟨bk,o+i * 6+5,none⟩=some vm:=(bel.cell (p:=⟨bk,o+i * 6+5,none⟩) hbk).trans (hcell 5 _ rfl)
      have hWI:WI (wld (l.take i)):=Zjn _ (fun c hc=>HCW.out c (List.mem_of_mem_take hc))
      have HD:Hid (Calls Tryz.prog 20 #[.pointer (some ⟨W.heap.size+1,0,none⟩),.agg #[.string c.nm,.string c.su,vi,.int .i64 c.fl,.int .i64 c.ld,vm]] wr fun e w'=>(∃ u,e=.returned u)∧Hid (∃ vp pv,HW w' W.heap.size (W.heap.size+1) W.heap.size (wld (l.take (i+1))) vp pv)∧Hid (Below W.heap.size W w')):=by
        obtain ⟨vp,pv,hw⟩:=hHW.out
        refine (Zjf W.heap.size (W.heap.size+1) W.heap.size _ vp pv c vi vm wr hw hB.out.size (hin.keep bel) hWI.nm).mono ?_
        rintro e w' ⟨rfl,hw',hb',_⟩
        rw [wld_at hc]
        exact ⟨⟨_,rfl⟩,hw',hB.out.trans hb'⟩
      clear hcl hcell hin hc bel hWI hHW hB HI
      go_wp2_with (go_at_call 20;refine HD.out.mono ?_;rintro e w3 ⟨⟨u3,rfl⟩,hw3,hb3⟩;clear HD)
      go_roundw
      case rel=>exact ⟨i+1,by go_num,by omega,hw3,hb3⟩
      case measure=>simp [intOf];omega
    · have e:i=L:=by omega
      subst e
      have HF:Hid (∃ mb vp pv,HW wr W.heap.size (W.heap.size+1) mb (wld l) vp pv):=by
        obtain ⟨vp,pv,hw⟩:=hHW.out
        rw [List.take_of_length_le (by rw [HL.out];exact Nat.le_refl _)] at hw
        exact ⟨_,_,_,hw⟩
      clear hHW HI
      go_wp2
      exact bodyPost_ret (results_tmp rfl _ _ _) rfl ⟨⟨_,rfl,HF.out⟩,hB.out⟩
theorem Zes (N1 N2:Nat) (l:List Sl) (v1 v2:Value) (W:World) (h1:W.ownsRow N1 48 4 v1 l.length (Yu l)) (h2:W.ownsRow N2 48 4 v2 l.length (Yu l)) (hn:l.length≤1000000000):Calls Tryz.prog 13 #[v1,v2] W fun e w'=>e=.returned (.bool true)∧Below W.heap.size W w':=by
  obtain ⟨a1,c1,rfl⟩:=ownv h1
  obtain ⟨a2,c2,rfl⟩:=ownv h2
  have H1:Hid (W.ownsRow N1 48 4 (.slice a1 l.length c1) l.length (Yu l)):=h1
  have H2:Hid (W.ownsRow N2 48 4 (.slice a2 l.length c2) l.length (Yu l)):=h2
  obtain ⟨K,hK⟩:∃ K,l.length=K:=⟨_,rfl⟩
  have HK:Hid (l.length=K):=hK
  rw [hK] at hn ⊢
  clear h1 h2 hK
  go_enter Tryz.func13,Tryz.ntmps13
  go_wp2
  go_loopw [5] (fun iv wr=>∃ i:Nat,iv=.int .i64 i∧i≤K∧Hid (Below W.heap.size W wr)) (fun iv _=>K - (intOf iv).toNat)
  case atStart=>exact ⟨0,rfl,Nat.zero_le _,Below.refl _ _⟩
  case round =>
    obtain ⟨i,rfl,hi,hb⟩:=hrel
    by_cases hlt:i<K
    · have hlq:i<l.length:=by rw [HK.out];exact hlt
      obtain ⟨x,hx⟩:∃ x,l[i]?=some x:=⟨_,List.getElem?_eq_getElem hlq⟩
      obtain ⟨g1,d1,hf1,_,hgl1,q1⟩:=Zkr H1.out (by omega)
      obtain ⟨g2,d2,hf2,_,hgl2,q2⟩:=Zkr H2.out (by omega)
      injection hf1 with ha1 _ hc1
      injection hf2 with ha2 _ hc2
      subst ha1 hc1 ha2 hc2
      have e0:W.cell? ⟨g1,i * 4,none⟩=_:=q1 _ _ ((Y8 l i x 0 hx (by decide)).trans rfl)
      have e1:=q1 _ _ ((Y8 l i x 1 hx (by decide)).trans rfl)
      have e2:=q1 _ _ ((Y8 l i x 2 hx (by decide)).trans rfl)
      have e3:=q1 _ _ ((Y8 l i x 3 hx (by decide)).trans rfl)
      have f0:W.cell? ⟨g2,i * 4,none⟩=_:=q2 _ _ ((Y8 l i x 0 hx (by decide)).trans rfl)
      have f1:=q2 _ _ ((Y8 l i x 1 hx (by decide)).trans rfl)
      have f2:=q2 _ _ ((Y8 l i x 2 hx (by decide)).trans rfl)
      have f3:=q2 _ _ ((Y8 l i x 3 hx (by decide)).trans rfl)
      clear q1 q2
      obtain ⟨σ,V,hne,V1,V2⟩:=class_of' (fun w'=>Below W.heap.size W w') ⟨_,Below.refl _ _⟩
      have kp:∀ (s:σ) (bb j:Nat) (v:Value),bb<W.heap.size→W.cell? ⟨bb,j,none⟩=some v→(V s).cell? ⟨bb,j,none⟩=some v:=fun s bb j v hl h=>((V1.out s).cell (p:=⟨bb,j,none⟩) hl).trans h
      replace e0:=fun s=>kp s _ _ _ hgl1 e0
      replace e1:=fun s=>kp s _ _ _ hgl1 e1
      replace f0:=fun s=>kp s _ _ _ hgl2 f0
      replace f1:=fun s=>kp s _ _ _ hgl2 f1
      replace e2:=fun s=>kp s _ _ _ hgl1 e2
      replace e3:=fun s=>kp s _ _ _ hgl1 e3
      replace f2:=fun s=>kp s _ _ _ hgl2 f2
      replace f3:=fun s=>kp s _ _ _ hgl2 f3
      have HS:Hid (∀ (a1 a2:Int) s,Calls Tryz.prog 18 #[.agg #[.int .i64 a1,.int .i64 a2],.agg #[.int .i64 a1,.int .i64 a2]] (V s) fun e w'=>e=.returned (.bool true)∧∃ s',w'=V s'):=fun a1 a2 s=>(Zhg (a1,a2) (a1,a2) (V s)).mono fun e w' zz=>⟨by rw [zz.1];simp,V2.out _ (Zc (V1.out s) zz.2)⟩
      have hiI:(i:Int)<(K:Int):=by omega
      obtain ⟨⟨x1,x2⟩,⟨x3,x4⟩⟩:=x
      simp only at e0 e1 e2 e3 f0 f1 f2 f3
      clear hx kp hlq H1 H2
      go_wp2
      refine Zd (C:=fun w'=>∃ s,w'=V s) (by kernel_rfl) (by kernel_rfl) (V2.out _ (hb.out.drew)) ?_
      repeat (go_big_quiet_step ((go_at_call 18;exact HS.out _ _ _)))
      refine wpQuiet_nil ?_
      intro w9 hw9
      obtain ⟨s9,rfl⟩:=hw9
      have B9:Hid (Below W.heap.size W (V s9)):=V1.out s9
      go_wp2
      go_roundw
      case rel=>exact ⟨i+1,by go_num,by omega,B9⟩
      case measure=>simp [intOf];omega
    · have e:i=K:=by omega
      subst e
      go_wp2
      exact bodyPost_ret (results_tmp rfl _ _ _) rfl ⟨rfl,hb.out⟩
theorem bldT_len {ps:List Plc} (hW:WI ps) (x:Int):(bldT ps x).length≤300000000:=by
  rw [bldT]
  split
  · rename_i h
    obtain ⟨n,q,rfl,hq⟩:=Zic h
    rw [Int.toNat_natCast]
    exact Zc9 hW (List.getElem?_eq_some_iff.1 hq).1
  · simp
theorem Qw {w w':World} {N e s n:Nat} {v:Value} {r:Option Nat} {xs:List Value} (h:w.ownsRow N e s v n xs) (hne:∀ k,v.ownBlock=some k→r=some k→False) (hg:w.grownBy w' r):w'.ownsRow N e s v n xs:=by
  refine h.kept hg ?_
  cases ob:v.ownBlock with
  | none=>exact .inl rfl
  | some k=>exact .inr fun e1=>hne k ob e1.symm
theorem vkeeps_w (ps:List Plc) (cs:List Cls) (W:World) (v:Value) (x E:Int) (K:Nat) (F:List Value) (hK:K≤300000000) (HB:Hid (∀ w:World,Below W.heap.size W w→Calls Tryz.prog 7 #[v] w fun e w'=>(∃ b,e=.returned (.pointer (some ⟨b,0,none⟩))∧WAt b ps w')∧Below w.heap.size w w')) (HO:Hid (∀ w:World,Below W.heap.size W w→Calls Tryz.prog 8 #[v] w fun e w'=>(∃ b,e=.returned (.pointer (some ⟨b,0,none⟩))∧RAt b cs w')∧Below w.heap.size w w')) (M1:Hid (∀ b w,WAt b ps w→Calls Tryz.prog 9 #[.pointer (some ⟨b,0,none⟩),.int .i64 x] w fun e w'=>(∃ v,e=.returned (.tuple #[v,.int .i64 E])∧w'.ownsRow w.heap.size 48 4 v K F)∧Below w.heap.size w w')) (M4:Hid (∀ b w,RAt b cs w→Calls Tryz.prog 10 #[.pointer (some ⟨b,0,none⟩),.int .i64 x] w fun e w'=>(∃ v,e=.returned (.tuple #[v,.int .i64 E])∧w'.ownsRow w.heap.size 48 4 v K F)∧Below w.heap.size w w')) (HS1:Hid (∀ N1 N2 v1 v2 (w:World),w.ownsRow N1 48 4 v1 K F→w.ownsRow N2 48 4 v2 K F→Calls Tryz.prog 13 #[v1,v2] w fun e w'=>e=.returned (.bool true)∧Below w.heap.size w w')) :
    Calls Tryz.prog 5 #[v,.int .i64 x] W fun e w'=>e=.returned (.bool true)∧Below W.heap.size W w':=by
  have HA:Hid (∀ w:World,Calls Tryz.prog 6 #[] w fun e w'=>e=.returned (.bool true)∧Below w.heap.size w w'):=Zl5
  have BB:Hid (Below W.heap.size W W):=Below.refl _ _
  have M2:=M1
  have M3:=M1
  have HS2:=HS1
  have HS3:=HS1
  have HS4:=HS1
  have HN1:Hid (∀ w:World,Calls Tryz.prog 9 #[.pointer none,.int .i64 0] w fun e w'=>e=.returned (.tuple #[.slice none 0 0,.int .i64 2])∧Below w.heap.size w w'):=fun w=>bldn_c w 0
  have HN2:Hid (∀ w:World,Calls Tryz.prog 14 #[.pointer none,.agg #[.int .i64 0,.int .i64 0]] w fun e w'=>e=.returned (.tuple #[.int .i64 0,.int .i64 2])∧Below w.heap.size w w'):=fun w=>slon_c w 0 0
  have HN3:Hid (∀ w:World,Calls Tryz.prog 16 #[.pointer none,.int .i64 0,.agg #[.int .i64 0,.int .i64 0]] w fun e w'=>e=.returned (.tuple #[.agg #[.int .i64 0,.int .i64 0],.int .i64 2])∧Below w.heap.size w w'):=fun w=>seln_c w 0 0 0
  have HN4:Hid (∀ w:World,Calls Tryz.prog 11 #[.pointer none,.int .i64 0] w fun e w'=>e=.returned (.tuple #[.int .i64 0,.int .i64 2])∧Below w.heap.size w w'):=fun w=>sizn_c w 0
  obtain ⟨i0,hi0,hz0,hz1,hz2⟩:=info_parts Tryz.hinfoS4
  go_enter Tryz.func5,Tryz.ntmps5
  go_wp2_with (go_at_call 6;refine (HA.out _).mono ?_;rintro e w1 ⟨rfl,hb⟩;have BB2:Below W.heap.size W w1:=Zc (sqE BB) hb;clear BB;have BB:Hid (Below W.heap.size W w1):=BB2;clear BB2;clear hb HA)
  go_wp2_with (go_at_call 7;refine (HB.out _ BB.out).mono ?_;rintro e w2 ⟨⟨b,rfl,hw⟩,hb⟩;have HW:Hid (∀ w,Below w2.heap.size w2 w→WAt b ps w):=fun w hx=>hw.below hx;have BB2:Below W.heap.size W w2:=Zc (sqE BB) hb;clear BB;have BB:Hid (Below W.heap.size W w2):=BB2;clear BB2;have D:Hid (Below w2.heap.size w2 w2):=Below.refl _ _;clear hb HB hw)
  go_wp2_with (go_at_call 9;refine (M1.out _ _ (HW.out _ D.out)).mono ?_;rintro e w3 ⟨⟨v9,rfl,ho⟩,hb⟩;obtain ⟨la,lc,rfl⟩:=ownv ho;have RA:Hid (w3.ownsRow w2.heap.size 48 4 (.slice la K lc) K F):=ho;have GA:Hid (∀ k,(Value.slice la K lc).ownBlock=some k→w2.heap.size≤k∧k<w3.heap.size):=ho.lt;have S3:w2.heap.size≤w3.heap.size:=hb.size;have D2:Below w2.heap.size w2 w3:=Zc (sqE D) hb;clear D;have D:Hid (Below w2.heap.size w2 w3):=D2;clear D2;clear hb ho M1)
  go_wp2_with (go_at_call 9;refine (M2.out _ _ (HW.out _ D.out)).mono ?_;rintro e w4 ⟨⟨v9,rfl,ho⟩,hb⟩;obtain ⟨ma,mc,rfl⟩:=ownv ho;have RB:Hid (w4.ownsRow w3.heap.size 48 4 (.slice ma K mc) K F):=ho;have S4:w3.heap.size≤w4.heap.size:=hb.size;have Z9:=Za RA.out hb;clear RA;have RA:Hid (w4.ownsRow w2.heap.size 48 4 (.slice la K lc) K F):=Z9;clear Z9;have D2:Below w2.heap.size w2 w4:=Zc (sqE D) hb;clear D;have D:Hid (Below w2.heap.size w2 w4):=D2;clear D2;clear hb ho M2)
  go_wp2_with (go_at_call 8;refine (HO.out _ (Zc BB.out D.out)).mono ?_;rintro e w5 ⟨⟨bx,rfl,hw⟩,hb⟩;have S5:w4.heap.size≤w5.heap.size:=hb.size;have HR:Hid (RAt bx cs w5):=hw;have Z9:=Za RA.out hb;clear RA;have RA:Hid (w5.ownsRow w2.heap.size 48 4 (.slice la K lc) K F):=Z9;clear Z9;have Z9:=Za RB.out hb;clear RB;have RB:Hid (w5.ownsRow w3.heap.size 48 4 (.slice ma K mc) K F):=Z9;clear Z9;have D2:Below w2.heap.size w2 w5:=Zc (sqE D) hb;clear D;have D:Hid (Below w2.heap.size w2 w5):=D2;clear D2;clear hb HO hw)
  go_wp2_with (go_at_call 10;refine (M4.out _ _ HR.out).mono ?_;rintro e w6 ⟨⟨v9,rfl,ho⟩,hb⟩;obtain ⟨ta,tc,rfl⟩:=ownv ho;have RT:Hid (w6.ownsRow w5.heap.size 48 4 (.slice ta K tc) K F):=ho;have S6:w5.heap.size≤w6.heap.size:=hb.size;clear HR;have Z9:=Za RA.out hb;clear RA;have RA:Hid (w6.ownsRow w2.heap.size 48 4 (.slice la K lc) K F):=Z9;clear Z9;have Z9:=Za RB.out hb;clear RB;have RB:Hid (w6.ownsRow w3.heap.size 48 4 (.slice ma K mc) K F):=Z9;clear Z9;have D2:Below w2.heap.size w2 w6:=Zc (sqE D) hb;clear D;have D:Hid (Below w2.heap.size w2 w6):=D2;clear D2;clear hb ho M4)
  go_wp2_with (go_at_call 13;refine (HS1.out _ _ _ _ _ RA.out RT.out).mono ?_;rintro e w7 ⟨rfl,hb⟩;have Z9:=Za RA.out hb;clear RA;have RA:Hid (w7.ownsRow w2.heap.size 48 4 (.slice la K lc) K F):=Z9;clear Z9;have Z9:=Za RB.out hb;clear RB;have RB:Hid (w7.ownsRow w3.heap.size 48 4 (.slice ma K mc) K F):=Z9;clear Z9;have Z9:=Za RT.out hb;clear RT;have RT:Hid (w7.ownsRow w5.heap.size 48 4 (.slice ta K tc) K F):=Z9;clear Z9;have D2:Below w2.heap.size w2 w7:=Zc (sqE D) hb;clear D;have D:Hid (Below w2.heap.size w2 w7):=D2;clear D2;clear hb HS1)
  go_wp2_with (go_at_call 13;refine (HS2.out _ _ _ _ _ RB.out RT.out).mono ?_;rintro e w8 ⟨rfl,hb⟩;have Z9:=Za RA.out hb;clear RA;have RA:Hid (w8.ownsRow w2.heap.size 48 4 (.slice la K lc) K F):=Z9;clear Z9;have Z9:=Za RB.out hb;clear RB;have RB:Hid (w8.ownsRow w3.heap.size 48 4 (.slice ma K mc) K F):=Z9;clear Z9;have Z9:=Za RT.out hb;clear RT;have RT:Hid (w8.ownsRow w5.heap.size 48 4 (.slice ta K tc) K F):=Z9;clear Z9;have D2:Below w2.heap.size w2 w8:=Zc (sqE D) hb;clear D;have D:Hid (Below w2.heap.size w2 w8):=D2;clear D2;clear hb HS2)
  go_loopw [12] (fun iv wr=>∃ i:Nat,iv=.int .i64 i∧i≤K∧Hid ((∃ xs,wr.ownsRow w2.heap.size 48 4 (.slice la K lc) K xs)∧wr.ownsRow w3.heap.size 48 4 (.slice ma K mc) K F∧wr.ownsRow w5.heap.size 48 4 (.slice ta K tc) K F∧Below w2.heap.size w2 wr)) (fun iv _=>K - (intOf iv).toNat)
  case atStart=>exact ⟨0,rfl,Nat.zero_le _,⟨_,RA.out⟩,RB.out,RT.out,D.out⟩
  case round =>
    obtain ⟨i,rfl,hi,hI⟩:=hrel
    clear RA RB RT D
    obtain ⟨⟨xs,h1⟩,h2,h3,h5⟩:=hI.out
    clear hI
    by_cases hlt:i<K
    · have hiI:(i:Int)<(K:Int):=by omega
      obtain ⟨g,cp,hf⟩:=Go.Joins.ownsRow_form h1 (by omega)
      injection hf with e1 _ e2
      subst e1 e2
      obtain ⟨g1,g2⟩:=GA.out g rfl
      have hlen:xs.length=K * 4:=h1.1
      have x0:=(h1.cellAt (i * 4) (by omega)).trans (List.getElem?_eq_getElem (by omega))
      generalize xs[i * 4]=y0 at x0
      have x1:=(h1.cellAt (i * 4+1) (by omega)).trans (List.getElem?_eq_getElem (by omega))
      generalize xs[i * 4+1]=y1 at x1
      have x2:=(h1.cellAt (i * 4+2) (by omega)).trans (List.getElem?_eq_getElem (by omega))
      generalize xs[i * 4+2]=y2 at x2
      have x3:=(h1.cellAt (i * 4+3) (by omega)).trans (List.getElem?_eq_getElem (by omega))
      generalize xs[i * 4+3]=y3 at x3
      have xf:∀ k,wr.frozen? ⟨g,k,none⟩=false:=fun k=>h1.frozenAt k
      have xL:g<wr.heap.size:=(h1.lt g rfl).2
      have NX:Hid ((∃ xs,((((wr.setCell ⟨g,i * 4,none⟩ (.int .i64 (-9))).setCell ⟨g,i * 4+1,none⟩ (.int .i64 0)).setCell ⟨g,i * 4+2,none⟩ (.int .i64 0)).setCell ⟨g,i * 4+3,none⟩ (.int .i64 0)).ownsRow w2.heap.size 48 4 (.slice (some ⟨g,0,none⟩) K lc) K xs)∧((((wr.setCell ⟨g,i * 4,none⟩ (.int .i64 (-9))).setCell ⟨g,i * 4+1,none⟩ (.int .i64 0)).setCell ⟨g,i * 4+2,none⟩ (.int .i64 0)).setCell ⟨g,i * 4+3,none⟩ (.int .i64 0)).ownsRow w3.heap.size 48 4 (.slice ma K mc) K F∧((((wr.setCell ⟨g,i * 4,none⟩ (.int .i64 (-9))).setCell ⟨g,i * 4+1,none⟩ (.int .i64 0)).setCell ⟨g,i * 4+2,none⟩ (.int .i64 0)).setCell ⟨g,i * 4+3,none⟩ (.int .i64 0)).ownsRow w5.heap.size 48 4 (.slice ta K tc) K F∧Below w2.heap.size w2 ((((wr.setCell ⟨g,i * 4,none⟩ (.int .i64 (-9))).setCell ⟨g,i * 4+1,none⟩ (.int .i64 0)).setCell ⟨g,i * 4+2,none⟩ (.int .i64 0)).setCell ⟨g,i * 4+3,none⟩ (.int .i64 0))):=by
        have s1:=h1.stored (i * 4) (.int .i64 (-9))
        have s2:=s1.1.stored (i * 4+1) (.int .i64 0)
        have s3:=s2.1.stored (i * 4+2) (.int .i64 0)
        have s4:=s3.1.stored (i * 4+3) (.int .i64 0)
        have gk:∀ k,(Value.slice (some ⟨g,0,none⟩) K lc).ownBlock=some k→w2.heap.size≤k∧k<w3.heap.size:=GA.out
        refine ⟨⟨_,s4.1⟩,?_,?_,(((h5.setCell (by simp;omega) _).setCell (by simp;omega) _).setCell (by simp;omega) _).setCell (by simp;omega) _⟩
        · have q1:=Qw h2 (fun k a1 a2=>by have p1:=(h2.lt k a1).1;have p2:=gk k a2;omega) s1.2
          have q2:=Qw q1 (fun k a1 a2=>by have p1:=(h2.lt k a1).1;have p2:=gk k a2;omega) s2.2
          have q3:=Qw q2 (fun k a1 a2=>by have p1:=(h2.lt k a1).1;have p2:=gk k a2;omega) s3.2
          exact Qw q3 (fun k a1 a2=>by have p1:=(h2.lt k a1).1;have p2:=gk k a2;omega) s4.2
        · have q1:=Qw h3 (fun k a1 a2=>by have p1:=(h3.lt k a1).1;have p2:=gk k a2;omega) s1.2
          have q2:=Qw q1 (fun k a1 a2=>by have p1:=(h3.lt k a1).1;have p2:=gk k a2;omega) s2.2
          have q3:=Qw q2 (fun k a1 a2=>by have p1:=(h3.lt k a1).1;have p2:=gk k a2;omega) s3.2
          exact Qw q3 (fun k a1 a2=>by have p1:=(h3.lt k a1).1;have p2:=gk k a2;omega) s4.2
      clear h1 h2 h3 h5 hlen
      go_wp2
      exact ⟨⟨i+1,by simp,by omega,NX.out⟩,by simp [intOf];omega⟩
    · have e:i=K:=by omega
      subst e
      have RA:Hid (wr.ownsRow w2.heap.size 48 4 (.slice la i lc) i xs):=h1
      have RB:Hid (wr.ownsRow w3.heap.size 48 4 (.slice ma i mc) i F):=h2
      have RT:Hid (wr.ownsRow w5.heap.size 48 4 (.slice ta i tc) i F):=h3
      have D:Hid (Below w2.heap.size w2 wr):=h5
      clear h1 h2 h3 h5 hlt hi
      obtain ⟨K,rfl⟩:∃ K,K=i:=⟨_,rfl⟩
      go_wp2_with (at_builtin;refine wpList_append_own _ rfl _ _ 28 rfl w2.heap.size 48 i0 (.agg #[.int .i64 0,.int .i64 0,.int .i64 0,.int .i64 0]) 4 32 Tryz.underlying28 hi0 hz0 hz1 hz2 rfl (by decide) (.slice la K lc) K xs rfl (RA.out.alloc _) ⟨wr.heap.size,0,none⟩ 2 2 [.int .i64 0,.int .i64 0,.int .i64 0,.int .i64 0,.int .i64 0,.int .i64 0,.int .i64 0,.int .i64 0] rfl rfl ?c1 ?c2 ?c3 ?c4 ?c5 ?_)
      case c1=>exact World.news_of_block (cs:=#[.int .i64 0,.int .i64 0,.int .i64 0,.int .i64 0,.int .i64 0,.int .i64 0,.int .i64 0,.int .i64 0]) (Zl _ _)
      case c2=>intro u hu;simp at hu;subst hu;rfl
      case c3=>unfold maxLen;omega
      case c4=>omega
      case c5=>have:=D.out.size;simp;omega
      intro v' w10 hown hgrow _
      obtain ⟨a10,c10,rfl⟩:=ownv hown
      have hD:Below w2.heap.size w2 w10:=by
        refine (D.out.alloc D.out.size _).grown hgrow (by have:=D.out.size;simp;omega) (fun z hz=>?_)
        exact (RA.out.lt z hz).1
      have hB:w10.ownsRow w3.heap.size 48 4 (.slice ma K mc) K F:=Qw (RB.out.alloc _) (fun k a1 a2=>by have p1:=(RB.out.lt k a1).1;have p2:=GA.out k a2;omega) hgrow
      have hT:w10.ownsRow w5.heap.size 48 4 (.slice ta K tc) K F:=Qw (RT.out.alloc _) (fun k a1 a2=>by have p1:=(RT.out.lt k a1).1;have p2:=GA.out k a2;omega) hgrow
      clear RA RB RT D hown hgrow
      have RB:Hid (w10.ownsRow w3.heap.size 48 4 (.slice ma K mc) K F):=hB
      have RT:Hid (w10.ownsRow w5.heap.size 48 4 (.slice ta K tc) K F):=hT
      have D:Hid (Below w2.heap.size w2 w10):=hD
      clear hB hT hD
      go_wp2_with (go_at_call 9;refine (M3.out _ _ (HW.out _ D.out)).mono ?_;rintro e w11 ⟨⟨v9,rfl,ho⟩,hb⟩;obtain ⟨oa,oc,rfl⟩:=ownv ho;have RC:Hid (w11.ownsRow w10.heap.size 48 4 (.slice oa K oc) K F):=ho;have Z9:=Za RB.out hb;clear RB;have RB:Hid (w11.ownsRow w3.heap.size 48 4 (.slice ma K mc) K F):=Z9;clear Z9;have Z9:=Za RT.out hb;clear RT;have RT:Hid (w11.ownsRow w5.heap.size 48 4 (.slice ta K tc) K F):=Z9;clear Z9;have D2:Below w2.heap.size w2 w11:=Zc (sqE D) hb;clear D;have D:Hid (Below w2.heap.size w2 w11):=D2;clear D2;clear hb ho M3)
      go_wp2_with (go_at_call 13;refine (HS3.out _ _ _ _ _ RB.out RT.out).mono ?_;rintro e w12 ⟨rfl,hb⟩;have Z9:=Za RT.out hb;clear RT;have RT:Hid (w12.ownsRow w5.heap.size 48 4 (.slice ta K tc) K F):=Z9;clear Z9;have Z9:=Za RC.out hb;clear RC;have RC:Hid (w12.ownsRow w10.heap.size 48 4 (.slice oa K oc) K F):=Z9;clear Z9;have D2:Below w2.heap.size w2 w12:=Zc (sqE D) hb;clear D;have D:Hid (Below w2.heap.size w2 w12):=D2;clear D2;clear hb HS3)
      go_wp2_with (go_at_call 13;refine (HS4.out _ _ _ _ _ RC.out RT.out).mono ?_;rintro e w13 ⟨rfl,hb⟩;have D2:Below w2.heap.size w2 w13:=Zc (sqE D) hb;clear D;have D:Hid (Below w2.heap.size w2 w13):=D2;clear D2;clear hb HS4)
      go_wp2_with (first|(go_at_call 9;refine (HN1.out _).mono ?_;rintro e w14 ⟨rfl,hb⟩;have D2:Below w2.heap.size w2 w14:=Zc (sqE D) hb;clear D;have D:Hid (Below w2.heap.size w2 w14):=D2;clear D2;clear hb HN1)|(go_at_call 14;refine (HN2.out _).mono ?_;rintro e w15 ⟨rfl,hb⟩;have D2:Below w2.heap.size w2 w15:=Zc (sqE D) hb;clear D;have D:Hid (Below w2.heap.size w2 w15):=D2;clear D2;clear hb HN2)|(go_at_call 16;refine (HN3.out _).mono ?_;rintro e w16 ⟨rfl,hb⟩;have D2:Below w2.heap.size w2 w16:=Zc (sqE D) hb;clear D;have D:Hid (Below w2.heap.size w2 w16):=D2;clear D2;clear hb HN3)|(go_at_call 11;refine (HN4.out _).mono ?_;rintro e w17 ⟨rfl,hb⟩;have D2:Below w2.heap.size w2 w17:=Zc (sqE D) hb;clear D;have D:Hid (Below w2.heap.size w2 w17):=D2;clear D2;clear hb HN4))
      go_ret
      exact ⟨rfl,Zc BB.out (sqE D)⟩
theorem Zb1 (v:Value) (l:List Cls) (x:Int) (W:World) (h:Zao W v l):Calls Tryz.prog 5 #[v,.int .i64 x] W fun e w'=>e=.returned (.bool true)∧Below W.heap.size W w':=by
  have hCW:=Zlt h
  obtain ⟨hWI,hWJ⟩:=wld_wj l hCW
  have ht:=twW l hCW
  have hS:=sndI_wld l hCW
  have hU:=unqM_wld l hCW
  have hz:=ht.tw.sz ht.wi
  have hL:=bldT_len hWI x
  exact vkeeps_w (wld l) (wldC l) W v x _ _ _ hL (fun w hb=>(Zl2 v l w (Zgf h hb)).mono fun e w' zz=>⟨by obtain ⟨b,e1,mb,vp,pv,hw⟩:=zz.1;exact ⟨b,e1,hw.wat⟩,zz.2⟩) (fun w hb=>of_c v l w (Zgf h hb)) (fun b w hw=>bld_c hw hWI hU x) (fun b w hw=>r13b_c hw ht hWJ hS hU hz x) (fun N1 N2 v1 v2 w r1 r2=>Zes N1 N2 _ v1 v2 w r1 r2 (by omega))
end Go.Proofs.YtjbmmmcjegjelaaGreat
