import Derived.Test.YtjlfnelihbdhjaaGreatRnH
set_option maxRecDepth 100000
namespace Go.Proofs.YtjlfnelihbdhjaaGreat
open Go.RowKit Go.Maps
def ovC (ps:List Plc) (nm ds:ByteArray) (a:Int×Int) (k:Nat):Bool:=decide ((fndI ps (k:Int) nm ds).2=0)&&(ovrI ps (gK ps nm ds k) a).1
theorem ov_st {ps:List Plc} {a x:Int×Int} (h:Ov ps a x):stI ps a=false:=by
  obtain ⟨n,hn⟩:=h
  induction n generalizing x with
  | zero=>exact hn.2
  | succ n ih=>obtain ⟨y,hy,_⟩:=hn;exact ih hy
theorem ovC_iff {ps:List Plc} (hW:WI ps) (hU:UnqM ps) {a:Int×Int} {ma:HM} (ha:methI ps a.1 a.2=some ma) {k:Nat}:ovC ps ma.nm ma.ds a k=true↔Ov ps a (gK ps ma.nm ma.ds k):=by
  constructor
  · intro h
    rw [ovC,Bool.and_eq_true] at h
    cases hx:methI ps (gK ps ma.nm ma.ds k).1 (gK ps ma.nm ma.ds k).2 with
    | none=>have:=h.2;simp [ovrI,hx] at this
    | some mx=>exact (ovr_iff hW hU ha hx).2.1 h.2
  · intro h
    obtain ⟨n,hn⟩:=h
    obtain ⟨mx,hmx,e1,e2,_⟩:=ovN_facts hW ha n _ hn
    have hf:=hU.fnd hmx e1 e2
    rw [ovC,Bool.and_eq_true,decide_eq_true_iff]
    refine ⟨?_,(ovr_iff hW hU ha hmx).2.2 ⟨n,hn⟩⟩
    have:(gK ps ma.nm ma.ds k).1=(k:Int):=rfl
    rw [this] at hf
    rw [hf]
theorem ov_gK {ps:List Plc} (hW:WI ps) (hU:UnqM ps) {a:Int×Int} {ma:HM} (ha:methI ps a.1 a.2=some ma) {x:Int×Int} (h:Ov ps a x):∃ k,k<ps.length∧x=gK ps ma.nm ma.ds k∧ovC ps ma.nm ma.ds a k=true∧a.1≤(k:Int):=by
  obtain ⟨n,hn⟩:=h
  obtain ⟨mx,hmx,e1,e2,_,e4,_⟩:=ovN_facts hW ha n _ hn
  obtain ⟨k,hk,e,_⟩:=gK_self hU hmx e1 e2
  refine ⟨k,hk,e.symm,(ovC_iff hW hU ha).2 (e ▸ ⟨n,hn⟩),?_⟩
  have h1:=extI_le hW e4
  have h2:(k:Int)=x.1:=by rw [← e];rfl
  omega
theorem ovC_le {ps:List Plc} (hW:WI ps) (hU:UnqM ps) {a:Int×Int} {ma:HM} (ha:methI ps a.1 a.2=some ma) {k:Nat} (h:ovC ps ma.nm ma.ds a k=true):a.1≤(k:Int)∧k<ps.length:=by
  obtain ⟨j,hj,e,_,h4⟩:=ov_gK hW hU ha ((ovC_iff hW hU ha).1 h)
  have:(k:Int)=(j:Int):=congrArg Prod.fst e
  omega
theorem gth_canon {ps:List Plc} (hW:WI ps) (hU:UnqM ps) {a:Int×Int} {ma:HM} (ha:methI ps a.1 a.2=some ma) {l:List Nat} (hasc:l.Pairwise (· < ·)) (hcl:∀ d∈l,∀ j:Nat,extI ps (d:Int) (j:Int)=true→ifcI ps (j:Int)=false→a.1<(j:Int)→j∈l):∀ n,gthL ps a (askL ps ma a (l.take n))=(if stI ps a then [] else [a])++((l.take n).filter fun k=>ovC ps ma.nm ma.ds a k&&((k:Int) != a.1)).map (gK ps ma.nm ma.ds):=by
  intro n
  induction n with
  | zero =>
    rw [List.take_zero,askL,nskL,gthL,List.foldl_cons,List.foldl_nil,gth1,eqI_iff.2 rfl]
    cases stI ps a <;> simp
  | succ n ih =>
    by_cases hn:n<l.length
    · obtain ⟨d,hd⟩:∃ d,l[n]?=some d:=⟨_,List.getElem?_eq_getElem hn⟩
      have hst:=nskL_take (ps:=ps) (nm:=ma.nm) (ds:=ma.ds) (a:=a.1) hd
      have hask:askL ps ma a (l.take (n+1))=askL ps ma a (l.take n)++(if (fndI ps (d:Int) ma.nm ma.ds).2=0∧(d:Int)≠a.1 then [gK ps ma.nm ma.ds d] else []):=by rw [askL,hst,askL,List.cons_append];rfl
      rw [hask,List.take_add_one,hd,Option.toList_some,List.filter_append,List.map_append]
      by_cases hc:(fndI ps (d:Int) ma.nm ma.ds).2=0∧(d:Int)≠a.1
      · rw [if_pos hc,gthL_snoc,gth1]
        have he:eqI (gK ps ma.nm ma.ds d) a=false:=by
          cases e:eqI (gK ps ma.nm ma.ds d) a with
          | false=>rfl
          | true=>rw [eqI_iff] at e;exact absurd (congrArg Prod.fst e) hc.2
        have hk:(gthL ps a (askL ps ma a (l.take n))).any (plI ps (gK ps ma.nm ma.ds d))=ovC ps ma.nm ma.ds a d:=by
          rw [Bool.eq_iff_iff,ovC_iff hW hU ha]
          constructor
          · intro h
            obtain ⟨y,hy,hp⟩:=List.any_eq_true.1 h
            exact (gth_ov _ [] (fun y hy=>by cases hy) y hy:Ov ps a y).step hp
          · intro h
            have hs:=ov_st h
            obtain ⟨m,hm⟩:=h
            cases m with
            | zero=>exact absurd (congrArg Prod.fst hm.1) hc.2
            | succ m =>
              obtain ⟨y,hy,hp⟩:=hm
              refine List.any_eq_true.2 ⟨y,?_,hp⟩
              obtain ⟨my,hmy,e1,e2,_,_,e5⟩:=ovN_facts hW ha m y hy
              rw [ih,hs]
              rcases e5 with rfl|⟨hif,hlt⟩
              · exact List.mem_append_left _ (List.mem_singleton.2 rfl)
              · obtain ⟨j,hj,ej,hoj,_⟩:=ov_gK hW hU ha ⟨m,hy⟩
                obtain ⟨_,_,_,_,_,_,_,_,hne,_,hex⟩:=pl_facts hp
                have hy1:y.1=(j:Int):=by rw [ej];rfl
                have hd1:(gK ps ma.nm ma.ds d).1=(d:Int):=rfl
                rw [hy1] at hif hlt hne hex
                rw [hd1] at hne hex
                have hle:=extI_le hW hex
                have hjl:=hcl d (List.mem_of_getElem? hd) j hex hif hlt
                refine List.mem_append_right _ (List.mem_map.2 ⟨j,List.mem_filter.2 ⟨take_lt hasc hd hjl (by omega),?_⟩,ej.symm⟩)
                rw [hoj,Bool.true_and,bne_iff_ne]
                omega
        rw [he,hk,Bool.false_and,Bool.false_or,ih]
        have hb:((d:Int) != a.1)=true:=by rw [bne_iff_ne];exact hc.2
        cases ho:ovC ps ma.nm ma.ds a d with
        | true=>simp [ho,hb,List.append_assoc]
        | false=>simp [ho]
      · rw [if_neg hc,List.append_nil,ih]
        have:(ovC ps ma.nm ma.ds a d&&((d:Int) != a.1))=false:=by
          rw [ovC]
          by_cases h1:(fndI ps (d:Int) ma.nm ma.ds).2=0
          · have h2:(d:Int)=a.1:=Decidable.not_not.1 fun h=>hc ⟨h1,h⟩
            rw [h2];simp
          · simp [h1]
        simp [this]
    · rw [List.take_of_length_le (by omega)] at ih ⊢
      exact ih
theorem last_max {F:List Nat} (h:F.Pairwise (· < ·)) {j:Nat} (hj:F.getLast?=some j):j∈F∧∀ x∈F,x≤j:=by
  rcases List.eq_nil_or_concat F with rfl|⟨F0,y,rfl⟩
  · cases hj
  · rw [List.concat_eq_append] at h hj ⊢
    rw [List.getLast?_append] at hj
    simp at hj
    subst hj
    refine ⟨by simp,fun x hx=>?_⟩
    rcases List.mem_append.1 hx with hx|hx
    · exact Nat.le_of_lt ((List.pairwise_append.1 h).2.2 x hx y (by simp))
    · rw [List.mem_singleton] at hx;omega
theorem find_desc {p:Nat→Bool}:∀ {l:List Nat},l.Pairwise (· > ·)→∀ {j:Nat},j∈l→p j=true→(∀ x∈l,p x=true→x≤j)→l.find? p=some j
  | [],_,_,h,_,_=>by cases h
  | y::r,hp,j,hj,hpj,hm=>by
    rw [List.find?_cons]
    rw [List.pairwise_cons] at hp
    cases hy:p y with
    | true =>
      rcases List.mem_cons.1 hj with rfl|hj
      · rfl
      · have h1:=hm y (by simp) hy
        have h2:=hp.1 j hj
        omega
    | false =>
      rcases List.mem_cons.1 hj with rfl|hj
      · rw [hy] at hpj;cases hpj
      · exact find_desc hp.2 hj hpj fun x hx h=>hm x (List.mem_cons_of_mem _ hx) h
def firD (ps:List Plc) (nm ds:ByteArray) (a:Int×Int) (l:List Nat):(Int×Int)×Int:=match l.find? (ovC ps nm ds a) with
  | some j=>(gK ps nm ds j,0)
  | none=>((0,0),6)
theorem firD_some {ps:List Plc} {nm ds:ByteArray} {a:Int×Int} {l:List Nat} {j:Nat} (h:l.find? (ovC ps nm ds a)=some j):firD ps nm ds a l=(gK ps nm ds j,0):=by rw [firD,h]
theorem firD_none {ps:List Plc} {nm ds:ByteArray} {a:Int×Int} {l:List Nat} (h:∀ x∈l,ovC ps nm ds a x=false):firD ps nm ds a l=((0,0),6):=by
  have:l.find? (ovC ps nm ds a)=none:=by rw [List.find?_eq_none];intro x hx;rw [h x hx];simp
  rw [firD,this]
theorem ch_closed {ps:List Plc} (hW:WI ps) {k:Nat} (hk:k<ps.length) {d:Nat} (hd:d∈chL (ps.map nd) k) {j:Nat} (hex:extI ps (d:Int) (j:Int)=true) (hif:ifcI ps (j:Int)=false):j∈chL (ps.map nd) k:=by
  have hkl:k<(ps.map nd).length:=by simpa using hk
  obtain ⟨i,j2,hi,hj,hil,hjl,he⟩:=extI_split hex
  obtain rfl:d=i:=by omega
  obtain rfl:j=j2:=by omega
  refine ch_trans hW.wo k hkl d hd j ?_
  rcases (ext_iff _ _ _).1 he with h|h
  · exact h
  · exfalso
    obtain ⟨_,_,p,hp1,hp2,_⟩:=cl_facts hW.wo h
    rw [ifcI,plcI_nat] at hif
    rw [List.getElem?_map] at hp1
    obtain ⟨q,hq,rfl⟩:=Option.map_eq_some_iff.1 hp1
    rw [hq] at hif
    have:(nd q).i=false:=hif
    rw [this] at hp2
    cases hp2
theorem fir_canon {ps:List Plc} (hW:WI ps) (hU:UnqM ps) {a:Int×Int} {ma:HM} (ha:methI ps a.1 a.2=some ma) {k:Nat} {q:Plc} (hq:ps[k]?=some q):firI ps (k:Int) a=firD ps ma.nm ma.ds a (chL (ps.map nd) k):=by
  have hk:=(List.getElem?_eq_some_iff.1 hq).1
  have hkl:k<(ps.map nd).length:=by simpa using hk
  have hdesc:=ch_desc hW.wo k hkl
  have hasc:(chL (ps.map nd) k).reverse.Pairwise (· < ·):=by rw [List.pairwise_reverse];exact hdesc
  have hg:=gth_canon hW hU ha hasc (fun d hd j h1 h2 _=>List.mem_reverse.2 (ch_closed hW hk (List.mem_reverse.1 hd) h1 h2)) (chL (ps.map nd) k).reverse.length
  rw [List.take_length] at hg
  have e0:firI ps (k:Int) a=lstI (chL (ps.map nd) k) (gthL ps a (askL ps ma a (chL (ps.map nd) k).reverse)):=by
    rw [firI,ha,plcI_nat,hq];rfl
  rw [e0,hg]
  obtain ⟨F,hF⟩:∃ F,((chL (ps.map nd) k).reverse.filter fun k=>ovC ps ma.nm ma.ds a k&&((k:Int) != a.1))=F:=⟨_,rfl⟩
  rw [hF]
  have hFasc:F.Pairwise (· < ·):=by rw [← hF];exact hasc.filter _
  have hFm:∀ x,x∈F↔x∈chL (ps.map nd) k∧ovC ps ma.nm ma.ds a x=true∧(x:Int)≠a.1:=fun x=>by
    rw [← hF,List.mem_filter,List.mem_reverse,Bool.and_eq_true,bne_iff_ne]
  cases hl:F.getLast? with
  | some j =>
    obtain ⟨hj1,hj2⟩:=last_max hFasc hl
    obtain ⟨h1,h2,h3⟩:=(hFm j).1 hj1
    have hle:=(ovC_le hW hU ha h2).1
    rw [firD_some (find_desc hdesc h1 h2 fun x hx hp=>?_)]
    · have hlast:((if stI ps a then [] else [a])++F.map (gK ps ma.nm ma.ds)).getLast?=some (gK ps ma.nm ma.ds j):=by
        rw [List.getLast?_append,List.getLast?_map,hl];rfl
      rw [lstI_last hlast,if_pos]
      exact List.contains_iff_mem.2 (List.mem_map.2 ⟨j,h1,rfl⟩)
    · by_cases hxa:(x:Int)=a.1
      · omega
      · exact hj2 x ((hFm x).2 ⟨hx,hp,hxa⟩)
  | none =>
    have hF0:F=[]:=List.getLast?_eq_none_iff.1 hl
    rw [hF0,List.map_nil,List.append_nil]
    cases hs:stI ps a with
    | true =>
      rw [firD_none fun x hx=>?_]
      · rfl
      · cases ho:ovC ps ma.nm ma.ds a x with
        | false=>rfl
        | true=>rw [ov_st ((ovC_iff hW hU ha).1 ho)] at hs;cases hs
    | false =>
      simp only [Bool.false_eq_true,if_false]
      rw [lstI_last (x:=a) rfl]
      by_cases hin:((chL (ps.map nd) k).map (fun k:Nat=>(k:Int))).contains a.1=true
      · rw [if_pos hin]
        obtain ⟨j,hj,ej⟩:=List.mem_map.1 (List.contains_iff_mem.1 hin)
        obtain ⟨j2,hj2,e2,hoj,_⟩:=ov_gK hW hU ha ⟨0,rfl,hs⟩
        have:(j2:Int)=a.1:=by rw [e2];rfl
        obtain rfl:j=j2:=by omega
        rw [firD_some (find_desc hdesc hj hoj fun x hx hp=>?_),← e2]
        by_cases hxa:(x:Int)=a.1
        · omega
        · have:=(hFm x).2 ⟨hx,hp,hxa⟩
          rw [hF0] at this;cases this
      · rw [if_neg hin,firD_none fun x hx=>?_]
        cases ho:ovC ps ma.nm ma.ds a x with
        | false=>rfl
        | true =>
          by_cases hxa:(x:Int)=a.1
          · exact absurd (List.contains_iff_mem.2 (List.mem_map.2 ⟨x,hx,hxa⟩)) hin
          · have:=(hFm x).2 ⟨hx,ho,hxa⟩
            rw [hF0] at this;cases this
def allK (ps:List Plc) (nm ds:ByteArray) (a:Int×Int):List Nat:=(List.range ps.length).filter (ovC ps nm ds a)
theorem all_canon {ps:List Plc} (hW:WI ps) (hU:UnqM ps) {a:Int×Int} {ma:HM} (ha:methI ps a.1 a.2=some ma) {k:Nat} (hk:a.1=(k:Int)):gthL ps a (askL ps ma a (List.range' (k+1) (ps.length - (k+1))))=(allK ps ma.nm ma.ds a).map (gK ps ma.nm ma.ds):=by
  have hkl:k<ps.length:=by
    obtain ⟨j,q,hj,hq,_,_⟩:=meth_plc ha
    have:=(List.getElem?_eq_some_iff.1 hq).1
    omega
  have hasc:(List.range' (k+1) (ps.length - (k+1))).Pairwise (· < ·):=List.pairwise_lt_range'
  have hg:=gth_canon hW hU ha hasc (fun d hd j h1 h2 h3=>by
    have hle:=extI_le hW h1
    have hd2:=List.mem_range'_1.1 hd
    exact List.mem_range'_1.2 (by omega)) (List.range' (k+1) (ps.length - (k+1))).length
  rw [List.take_length] at hg
  rw [hg,allK]
  have hsplit:List.range ps.length=List.range k++([k]++List.range' (k+1) (ps.length - (k+1))):=by
    have e1:ps.length=k+(ps.length - (k+1)+1):=by omega
    have e2:=List.range'_append_1 (s:=0) (m:=k) (n:=ps.length - (k+1)+1)
    rw [Nat.zero_add,← e1] at e2
    rw [List.singleton_append,← List.range'_succ,List.range_eq_range',List.range_eq_range',e2]
  rw [hsplit,List.filter_append,List.filter_append,List.map_append,List.map_append]
  have h0:(List.range k).filter (ovC ps ma.nm ma.ds a)=[]:=by
    rw [List.filter_eq_nil_iff]
    intro x hx ho
    have:=(ovC_le hW hU ha ho).1
    have:=List.mem_range.1 hx
    omega
  have h1:(List.range' (k+1) (ps.length - (k+1))).filter (fun k=>ovC ps ma.nm ma.ds a k&&((k:Int) != a.1))=(List.range' (k+1) (ps.length - (k+1))).filter (ovC ps ma.nm ma.ds a):=by
    refine List.filter_congr fun x hx=>?_
    have:=(List.mem_range'_1.1 hx).1
    have:((x:Int) != a.1)=true:=by rw [bne_iff_ne];omega
    rw [this,Bool.and_true]
  rw [h0,h1,List.map_nil,List.nil_append]
  congr 1
  cases hs:stI ps a with
  | true =>
    have:ovC ps ma.nm ma.ds a k=false:=by
      cases ho:ovC ps ma.nm ma.ds a k with
      | false=>rfl
      | true=>rw [ov_st ((ovC_iff hW hU ha).1 ho)] at hs;cases hs
    simp [this]
  | false =>
    obtain ⟨j,hj,e2,hoj,_⟩:=ov_gK hW hU ha ⟨0,rfl,hs⟩
    have:(j:Int)=a.1:=by rw [e2];rfl
    obtain rfl:k=j:=by omega
    simp [hoj,← e2]
set_option maxHeartbeats 4000000 in
theorem r9all_no {b:Nat} {cs:List Cls} {ps:List Plc} {W:World} (h:RAt b cs W) (ht:TwW cs ps) (c i:Int) (x:HM) (hx:methI ps c i=some x) (hst:hasI x.fl 8=true):Calls Tryz.prog 73 #[.pointer (some ⟨b,0,none⟩),.agg #[.int .i64 c,.int .i64 i]] W fun e w'=>e=.returned (.slice none 0 0)∧Below W.heap.size W w':=by
  have HM:Hid (∀ w,Below W.heap.size W w→Calls Tryz.prog 143 #[.pointer (some ⟨b,0,none⟩),.agg #[.int .i64 c,.int .i64 i]] w fun e w'=>(∃ a n s,e=.returned (.agg #[.string x.nm,.string x.ds,.int .i64 x.fl,.int .i64 x.lo,.int .i64 x.st,.slice a n s]))∧Below w.heap.size w w'):=fun w hb=>r9meth_c (h.below hb) ht c i x hx
  have HH:Hid (∀ w:World,Calls Tryz.prog 101 #[.int .i64 x.fl,.int .i64 8] w fun e w'=>e=.returned (.bool true)∧w'=w):=fun w=>by
    have:=has_any x.fl 8 w
    rw [hst] at this
    exact this
  have FLD:∀ (a:Option Addr) (n m:Nat) (w:World),(Instr.field 81 (.agg #[.string x.nm,.string x.ds,.int .i64 x.fl,.int .i64 x.lo,.int .i64 x.st,.slice a n m]) 2).run Tryz.prog w=.ok (.int .i64 x.fl) w:=fun a n m w=>by
    simp [Instr.field,run_underlying Tryz.underlying81,go_sem,part,asAgg]
  clear h ht hx hst
  go_enter Tryz.func73,Tryz.ntmps73
  go_wp2_with (first
    | (go_at_call 143;refine (HM.out _ ((Below.refl _ _).alloc (Nat.le_refl _) _)).mono ?_;rintro e w1 ⟨⟨xa,xk,xo,rfl⟩,hb⟩;have B1:Hid (Below W.heap.size W w1):=bstep ((Below.refl _ _).alloc (Nat.le_refl _) _) hb;clear hb HM)
    | (go_at_call 101;refine (HH.out _).mono ?_;rintro e w9 ⟨rfl,hw9⟩;rw [hw9];clear hw9 w9 HH))
  all_goals exact bodyPost_ret (results_tmp rfl _ _ _) rfl ⟨rfl,B1.out⟩
theorem r9all_any {b:Nat} {cs:List Cls} {ps:List Plc} {W:World} (h:RAt b cs W) (ht:TwW cs ps) (hJ:WJ ps) (hS:SndI ps) (hU:UnqM ps) (hz:∀ c∈cs,c.nm.size≤maxLen) (c i:Int) (x:HM) (hx:methI ps c i=some x):Calls Tryz.prog 73 #[.pointer (some ⟨b,0,none⟩),.agg #[.int .i64 c,.int .i64 i]] W fun e w'=>(∃ v A,e=.returned v∧w'.ownsRow W.heap.size 24 2 v A.length (flatD A)∧A.length≤300∧(∀ y,y∈A↔Ov ps (c,i) y)∧A.Nodup)∧Below W.heap.size W w':=by
  cases hst:hasI x.fl 8 with
  | false=>exact r9all_c h ht hJ hS hU hz c i x hx hst
  | true =>
    refine (r9all_no h ht c i x hx hst).mono fun e w' zz=>⟨⟨_,[],zz.1,World.ownsRow_nil _ _ _ _,by simp,fun y=>⟨fun hy=>(by cases hy),fun hy=>?_⟩,List.nodup_nil⟩,zz.2⟩
    have h0:=ov_st hy
    rw [stI] at h0
    simp only [hx] at h0
    exact absurd (show hasI x.fl 8=false from h0) (by rw [hst];decide)
def firA (A:List (Int×Int)):List Nat→(Int×Int)×Int
  | []=>((0,0),6)
  | c::r=>match A.find? (fun y=>y.1 == (c:Int)) with
    | some y=>(y,0)
    | none=>firA A r
theorem firA_at {A:List (Int×Int)} {l:List Nat} {i c:Nat} (h:l[i]?=some c):firA A (l.drop i)=match A.find? (fun y=>y.1 == (c:Int)) with
    | some y=>(y,0)
    | none=>firA A (l.drop (i+1)):=by
  obtain ⟨hi,rfl⟩:=List.getElem?_eq_some_iff.1 h
  rw [List.drop_eq_getElem_cons hi,firA]
theorem find_at {A:List (Int×Int)} {p:Int×Int→Bool} {j:Nat} {y:Int×Int} (h:A[j]?=some y):(A.drop j).find? p=if p y then some y else (A.drop (j+1)).find? p:=by
  obtain ⟨hi,rfl⟩:=List.getElem?_eq_some_iff.1 h
  rw [List.drop_eq_getElem_cons hi,List.find?_cons]
  split <;> simp_all
theorem rowN_cell {w:World} {N g cap K:Nat} {l:List Nat} (h:w.ownsRow N 3 1 (.slice (some ⟨g,0,none⟩) K cap) K (l.map numV)) {i c:Nat} (hi:l[i]?=some c):w.cell? ⟨g,i,none⟩=some (.int .i64 (c:Int))∧g<w.heap.size:=by
  rcases h with ⟨hl,⟨hn,_⟩|⟨g2,cap2,cur,hv,_,hb,_,_,hcs,ht⟩⟩
  · cases hn
  · injection hv with h1 _ _
    injection h1 with h1
    injection h1 with h1 _ _
    subst h1
    refine ⟨?_,(Array.getElem?_eq_some_iff.1 hb).1⟩
    rw [cell_of_row w g i _ _ _ hb]
    have hi2:=(List.getElem?_eq_some_iff.1 hi).1
    have hlk:(l.map numV).length=l.length:=List.length_map ..
    have e:(cur.toList.take (K * 1))[i]?=some (numV c):=by rw [ht,List.getElem?_map,hi];rfl
    rw [List.getElem?_take_of_lt (by omega)] at e
    rw [← Array.getElem?_toList,e]
    rfl
set_option maxHeartbeats 8000000 in
theorem r9Fw (W:World) (b:Nat) (r a1 a2:Int) (l:List Nat) (K:Nat) (hK:K≤1000000) (HLK:Hid (l.length=K)) (PA:List (Int×Int)→Prop) (R:(Int×Int)×Int) (HPR:Hid (∀ A,PA A→firA A l=R))
    (HI:Hid (∀ w,Below W.heap.size W w→Calls Tryz.prog 66 #[.pointer (some ⟨b,0,none⟩),.agg #[.int .i64 a1,.int .i64 a2]] w fun e w'=>e=.returned (.bool true)∧Below w.heap.size w w'))
    (HN:Hid (∀ w,Below W.heap.size W w→Calls Tryz.prog 76 #[.pointer (some ⟨b,0,none⟩),.int .i64 r] w fun e w'=>e=.returned (.bool true)∧w'=w))
    (HL:Hid (∀ w,Below W.heap.size W w→Calls Tryz.prog 73 #[.pointer (some ⟨b,0,none⟩),.agg #[.int .i64 a1,.int .i64 a2]] w fun e w'=>(∃ v A,e=.returned v∧w'.ownsRow w.heap.size 24 2 v A.length (flatD A)∧A.length≤300∧PA A)∧Below w.heap.size w w'))
    (HC:Hid (∀ w,Below W.heap.size W w→Calls Tryz.prog 77 #[.pointer (some ⟨b,0,none⟩),.int .i64 r] w fun e w'=>(∃ v,e=.returned (.tuple #[v,.int .i64 0])∧w'.ownsRow w.heap.size 3 1 v K (l.map numV))∧Below w.heap.size w w')) :
    Calls Tryz.prog 23 #[.pointer (some ⟨b,0,none⟩),.int .i64 r,.agg #[.int .i64 a1,.int .i64 a2]] W fun e w'=>e=.returned (idE R)∧Below W.heap.size W w':=by
  have BB:Hid (Below W.heap.size W W):=Below.refl _ _
  go_enter Tryz.func23,Tryz.ntmps23
  go_wp2_with (first
    | (go_at_call 66;refine (HI.out _ (by repeat (first|exact Below.refl _ _|refine Below.setCell ?_ (by simp;try omega) _|refine Below.alloc ?_ (by simp;try omega) _|refine Below.drew ?_))).mono ?_;rintro e w1 ⟨rfl,hb⟩;have abd:=kp2 (n:=W.heap.size) hb (by simp;try omega) (hkeep (halloc1 _ _));obtain ⟨abB,ab0,ab1,abf,abL,abN⟩:=abd;have zbd:=kp2 (n:=W.heap.size+1) hb (by simp;try omega) (halloc2 _ _ (by simp));obtain ⟨zbB,zb0,zb1,zbf,zbL,zbN⟩:=zbd;have B1:Hid (Below W.heap.size W w1):=bstep (by repeat (first|exact Below.refl _ _|refine Below.setCell ?_ (by simp;try omega) _|refine Below.alloc ?_ (by simp;try omega) _|refine Below.drew ?_)) hb;clear hb HI)
    | (go_at_call 76;refine (HN.out _ B1.out).mono ?_;rintro e w9 ⟨rfl,hw9⟩;rw [hw9];clear hw9 w9 HN)
    | (go_at_call 73;refine (HL.out _ B1.out).mono ?_;rintro e w2 ⟨⟨v,A,rfl,ho,hA3,hPA⟩,hb⟩;obtain ⟨va,vc,rfl⟩:=ownv ho;have OA2:Hid (w2.ownsRow w1.heap.size 24 2 (.slice va A.length vc) A.length (flatD A)):=ho;have HPA:Hid (PA A):=hPA;have zbd:=kp2 (n:=W.heap.size+1) hb (by first|omega|(simp;try omega)) zbB.out;clear zbB zb0 zb1 zbf zbL zbN;obtain ⟨zbB,zb0,zb1,zbf,zbL,zbN⟩:=zbd;have B2:Hid (Below W.heap.size W w2):=bstep B1.out hb;clear hb ho hPA HL)
    | (go_at_call 77;refine (HC.out _ B2.out).mono ?_;rintro e w3 ⟨⟨v,rfl,ho⟩,hb⟩;obtain ⟨ca,cc,rfl⟩:=ownv ho;have OC3:Hid (w3.ownsRow w2.heap.size 3 1 (.slice ca K cc) K (l.map numV)):=ho;have OA3:Hid (w3.ownsRow w1.heap.size 24 2 (.slice va A.length vc) A.length (flatD A)):=rowBelow OA2.out hb;have zbd:=kp2 (n:=W.heap.size+1) hb (by first|omega|(simp;try omega)) zbB.out;clear zbB zb0 zb1 zbf zbL zbN;obtain ⟨zbB,zb0,zb1,zbf,zbL,zbN⟩:=zbd;have B3:Hid (Below W.heap.size W w3):=bstep B2.out hb;clear hb ho HC OA2))
  have HF0:Hid (firA A l=R):=HPR.out A HPA.out
  have ZB:Hid (w3.heap[W.heap.size+1]?=some (.cells #[.int .i64 0,.int .i64 0] 24 (0,0))):=zbB.out
  have HZL:Hid (W.heap.size+1<w3.heap.size):=zbL
  clear zbB zb0 zb1 zbf zbL zbN HPR HPA abB ab0 ab1 abf abL abN
  obtain ⟨T,hT⟩:∃ T,A.length=T:=⟨_,rfl⟩
  have HT:Hid (A.length=T):=hT
  rw [hT] at hA3 OA3 ⊢
  clear hT
  obtain ⟨σ,V,hne,V1,V2⟩:=class_of' (fun w'=>Below w3.heap.size w3 w') ⟨_,Below.refl _ _⟩
  go_loopw [11] (fun kv wr=>∃ (i:Nat),kv=.int .i64 i∧i≤K∧Hid (firA A (l.drop i)=R)∧Hid (Below w3.heap.size w3 wr)) (fun kv _=>K - (intOf kv).toNat)
  case atStart=>exact ⟨0,rfl,Nat.zero_le _,HF0,Below.refl _ _⟩
  case round =>
    obtain ⟨i,rfl,hi,hF,hBo⟩:=hrel
    by_cases hlt:i<K
    · have hiI:(i:Int)<(K:Int):=by omega
      obtain ⟨c,hc⟩:∃ c,l[i]?=some c:=⟨_,List.getElem?_eq_getElem (by rw [HLK.out];exact hlt)⟩
      obtain ⟨gc,c2,hform⟩:=Go.Joins.ownsRow_form OC3.out (by omega)
      injection hform with hca _ hcc
      subst hca hcc
      obtain ⟨k0,kL⟩:=rowN_cell OC3.out hc
      replace k0:=fun s0=>((V1.out s0).cell (p:=⟨gc,i,none⟩) kL).trans k0
      have hst:=firA_at (A:=A) hc
      rw [hF.out] at hst
      have HST:Hid _:=hst
      obtain ⟨wo,hwo⟩:∃ w,w=wr:=⟨_,rfl⟩
      subst hwo
      clear hst hF hc
      go_wp2
      go_loopw [12] (fun kv wr=>∃ (j:Nat),kv=.int .i64 j∧j≤T∧Hid (A.find? (fun y=>y.1 == (c:Int))=(A.drop j).find? (fun y=>y.1 == (c:Int)))∧Hid (Below w3.heap.size w3 wr)) (fun kv _=>T - (intOf kv).toNat)
      case atStart=>exact ⟨0,rfl,Nat.zero_le _,rfl,hBo⟩
      case round =>
        obtain ⟨j,rfl,hj,hFJ,hB⟩:=hrel
        by_cases hlj:j<T
        · have hjI:(j:Int)<(T:Int):=by omega
          obtain ⟨y,hy⟩:∃ y,A[j]?=some y:=⟨_,List.getElem?_eq_getElem (by rw [HT.out];exact hlj)⟩
          obtain ⟨ga,c3,hform2⟩:=Go.Joins.ownsRow_form OA3.out (by omega)
          injection hform2 with hca2 _ hcc2
          subst hca2 hcc2
          obtain ⟨d0,d1,hgl⟩:=rowD_cells (l:=A) (i:=j) (x:=y) (by rw [HT.out];exact OA3.out) hy
          have e0:=(hB.out.drew.cell (p:=⟨ga,j * 2,none⟩) hgl).trans d0
          have e1:=(hB.out.drew.cell (p:=⟨ga,j * 2+1,none⟩) hgl).trans d1
          have HD0:Hid (w3.cell? ⟨ga,j * 2,none⟩=some (.int .i64 y.1)):=d0
          have HD1:Hid (w3.cell? ⟨ga,j * 2+1,none⟩=some (.int .i64 y.2)):=d1
          replace d0:=fun s0=>((V1.out s0).cell (p:=⟨ga,j * 2,none⟩) hgl).trans d0
          have hfj:=find_at (p:=fun y=>y.1 == (c:Int)) hy
          rw [← hFJ.out] at hfj
          have HFJ:Hid _:=hfj
          obtain ⟨y1,y2⟩:=y
          simp only at d0 d1 HFJ HD0 HD1
          clear hfj hFJ hy e0 e1 d1
          by_cases hyc:y1=(c:Int)
          · subst hyc
            have eR:R=(((c:Int),y2),0):=by
              have h1:=HFJ.out
              rw [if_pos (by simp)] at h1
              have h2:=HST.out
              rw [h1] at h2
              exact h2
            subst eR
            clear HFJ HST HF0
            go_wp2
            refine wp_region_class (C:=fun w'=>∃ s,w'=V s) (by kernel_rfl) (by kernel_rfl) (V2.out _ (hB.out.drew)) ?_
            repeat (go_big_quiet_step (fail))
            refine wpQuiet_nil ?_
            intro w9 hw9
            obtain ⟨s9,hw9⟩:=hw9
            have B9:Below w3.heap.size w3 w9:=by rw [hw9];exact V1.out s9
            have g0:=(B9.cell (p:=⟨ga,j * 2,none⟩) hgl).trans HD0.out
            have g1:=(B9.cell (p:=⟨ga,j * 2+1,none⟩) hgl).trans HD1.out
            obtain ⟨z0,z1,zf,zL⟩:=rw2 ((B9.block (W.heap.size+1) HZL.out).trans ZB.out)
            have BW:Hid (Below W.heap.size W w9):=B3.out.trans (B9.mono B3.out.size)
            clear hw9 B9
            go_wp2
            exact bodyPost_ret (v:=idE (((c:Int),y2),0)) (by simp [results,Tryz.results23,go_sem,idE, *]) rfl ⟨rfl,(by repeat (first|refine Below.setCell ?_ (by simp;try omega) _|refine Below.alloc ?_ (by have:=BW.out.size;simp;try omega) _|refine Below.drew ?_|exact BW.out))⟩
          · have hyb:(y1 == (c:Int))=false:=by simp [hyc]
            have HN2:Hid (A.find? (fun y=>y.1 == (c:Int))=(A.drop (j+1)).find? (fun y=>y.1 == (c:Int))):=by
              have h1:=HFJ.out
              rw [if_neg (by simp [hyc])] at h1
              exact h1
            clear HFJ
            go_wp2
            refine wp_region_class (C:=fun w'=>∃ s,w'=V s) (by kernel_rfl) (by kernel_rfl) (V2.out _ (hB.out.drew)) ?_
            repeat (go_big_quiet_step (fail))
            refine wpQuiet_nil ?_
            intro w9 hw9
            obtain ⟨s9,hw9⟩:=hw9
            have B9:Hid (Below w3.heap.size w3 w9):=by rw [hw9];exact V1.out s9
            clear hw9
            go_wp2
            go_roundw
            case rel=>exact ⟨j+1,by go_num,by omega,HN2,B9⟩
            case measure=>simp [intOf];omega
        · have e:j=T:=by omega
          subst e
          have HNX:Hid (firA A (l.drop (i+1))=R):=by
            have h1:=hFJ.out
            rw [List.drop_of_length_le (by rw [HT.out];exact Nat.le_refl _),List.find?_nil] at h1
            have h2:=HST.out
            rw [h1] at h2
            exact h2.symm
          clear hFJ HST HF0
          go_wp2
          go_roundw
          case rel=>exact ⟨i+1,by go_num,by omega,HNX,hB⟩
          case measure=>simp [intOf];omega
    · have e:i=K:=by omega
      subst e
      have eR:R=((0,0),6):=by
        have h1:=hF.out
        rw [List.drop_of_length_le (by rw [HLK.out];exact Nat.le_refl _)] at h1
        exact h1.symm
      subst eR
      have BW:Hid (Below W.heap.size W wr):=B3.out.trans (hBo.out.mono B3.out.size)
      obtain ⟨z0,z1,zf,zL⟩:=rw2 ((hBo.out.block (W.heap.size+1) HZL.out).trans ZB.out)
      clear hF HF0
      go_wp2
      exact bodyPost_ret (v:=idE ((0,0),6)) (by simp [results,Tryz.results23,go_sem,idE, *]) rfl ⟨rfl,(by repeat (first|refine Below.setCell ?_ (by simp;try omega) _|refine Below.alloc ?_ (by have:=BW.out.size;simp;try omega) _|refine Below.drew ?_|exact BW.out))⟩
set_option maxHeartbeats 4000000 in
theorem r9Fno (W:World) (b:Nat) (r a1 a2:Int) (ia ir:Bool) (hno:(ia&&ir)=false)
    (HI:Hid (∀ w,Below W.heap.size W w→Calls Tryz.prog 66 #[.pointer (some ⟨b,0,none⟩),.agg #[.int .i64 a1,.int .i64 a2]] w fun e w'=>e=.returned (.bool ia)∧Below w.heap.size w w'))
    (HN:Hid (∀ w,Below W.heap.size W w→Calls Tryz.prog 76 #[.pointer (some ⟨b,0,none⟩),.int .i64 r] w fun e w'=>e=.returned (.bool ir)∧w'=w)) :
    Calls Tryz.prog 23 #[.pointer (some ⟨b,0,none⟩),.int .i64 r,.agg #[.int .i64 a1,.int .i64 a2]] W fun e w'=>e=.returned (idE ((0,0),3))∧Below W.heap.size W w':=by
  cases ia
  case false =>
    clear HN hno
    go_enter Tryz.func23,Tryz.ntmps23
    go_wp2_with (go_at_call 66;refine (HI.out _ (by repeat (first|exact Below.refl _ _|refine Below.setCell ?_ (by simp;try omega) _|refine Below.alloc ?_ (by simp;try omega) _|refine Below.drew ?_))).mono ?_;rintro e w1 ⟨rfl,hb⟩;have zbd:=kp2 (n:=W.heap.size+1) hb (by simp;try omega) (halloc2 _ _ (by simp));obtain ⟨zbB,zb0,zb1,zbf,zbL,zbN⟩:=zbd;have B1:Hid (Below W.heap.size W w1):=bstep (by repeat (first|exact Below.refl _ _|refine Below.setCell ?_ (by simp;try omega) _|refine Below.alloc ?_ (by simp;try omega) _|refine Below.drew ?_)) hb;clear hb HI)
    exact bodyPost_ret (v:=idE ((0,0),3)) (by simp [results,Tryz.results23,go_sem,idE, *]) rfl ⟨rfl,(by repeat (first|refine Below.setCell ?_ (by simp;try omega) _|refine Below.alloc ?_ (by have:=B1.out.size;simp;try omega) _|refine Below.drew ?_|exact B1.out))⟩
  case true =>
    obtain rfl:ir=false:=by simpa using hno
    clear hno
    go_enter Tryz.func23,Tryz.ntmps23
    go_wp2_with (first
      | (go_at_call 66;refine (HI.out _ (by repeat (first|exact Below.refl _ _|refine Below.setCell ?_ (by simp;try omega) _|refine Below.alloc ?_ (by simp;try omega) _|refine Below.drew ?_))).mono ?_;rintro e w1 ⟨rfl,hb⟩;have zbd:=kp2 (n:=W.heap.size+1) hb (by simp;try omega) (halloc2 _ _ (by simp));obtain ⟨zbB,zb0,zb1,zbf,zbL,zbN⟩:=zbd;have B1:Hid (Below W.heap.size W w1):=bstep (by repeat (first|exact Below.refl _ _|refine Below.setCell ?_ (by simp;try omega) _|refine Below.alloc ?_ (by simp;try omega) _|refine Below.drew ?_)) hb;clear hb HI)
      | (go_at_call 76;refine (HN.out _ B1.out).mono ?_;rintro e w9 ⟨rfl,hw9⟩;rw [hw9];clear hw9 w9 HN))
    exact bodyPost_ret (v:=idE ((0,0),3)) (by simp [results,Tryz.results23,go_sem,idE, *]) rfl ⟨rfl,(by repeat (first|refine Below.setCell ?_ (by simp;try omega) _|refine Below.alloc ?_ (by have:=B1.out.size;simp;try omega) _|refine Below.drew ?_|exact B1.out))⟩
theorem firD_cons {ps:List Plc} {nm ds:ByteArray} {a:Int×Int} {c:Nat} {r:List Nat}:firD ps nm ds a (c::r)=if ovC ps nm ds a c then (gK ps nm ds c,0) else firD ps nm ds a r:=by
  rw [firD,firD,List.find?_cons]
  cases ovC ps nm ds a c <;> rfl
theorem findA {ps:List Plc} (hW:WI ps) (hU:UnqM ps) {a:Int×Int} {ma:HM} (ha:methI ps a.1 a.2=some ma) {A:List (Int×Int)} (hA:∀ y,y∈A↔Ov ps a y) (c:Nat):A.find? (fun y=>y.1 == (c:Int))=if ovC ps ma.nm ma.ds a c then some (gK ps ma.nm ma.ds c) else none:=by
  cases hf:A.find? (fun y=>y.1 == (c:Int)) with
  | some y =>
    have h1:=List.find?_some hf
    have h2:=List.mem_of_find?_eq_some hf
    obtain ⟨k,_,e,ho,_⟩:=ov_gK hW hU ha ((hA y).1 h2)
    have hk:y.1=(k:Int):=by rw [e];rfl
    rw [beq_iff_eq] at h1
    obtain rfl:c=k:=by omega
    rw [ho,if_pos rfl,e]
  | none =>
    cases ho:ovC ps ma.nm ma.ds a c with
    | false=>rfl
    | true =>
      have:=List.find?_eq_none.1 hf _ ((hA _).2 ((ovC_iff hW hU ha).1 ho))
      exact absurd (beq_iff_eq.2 (rfl:(gK ps ma.nm ma.ds c).1=(c:Int))) this
theorem firA_canon {ps:List Plc} (hW:WI ps) (hU:UnqM ps) {a:Int×Int} {ma:HM} (ha:methI ps a.1 a.2=some ma) {A:List (Int×Int)} (hA:∀ y,y∈A↔Ov ps a y):∀ l:List Nat,firA A l=firD ps ma.nm ma.ds a l
  | []=>rfl
  | c::r=>by
    rw [firA,findA hW hU ha hA c,firD_cons,firA_canon hW hU ha hA r]
    cases ovC ps ma.nm ma.ds a c <;> rfl
theorem r9first_c {b:Nat} {cs:List Cls} {ps:List Plc} {W:World} (h:RAt b cs W) (ht:TwW cs ps) (hJ:WJ ps) (hS:SndI ps) (hU:UnqM ps) (hz:∀ c∈cs,c.nm.size≤maxLen) (r a1 a2:Int):Calls Tryz.prog 23 #[.pointer (some ⟨b,0,none⟩),.int .i64 r,.agg #[.int .i64 a1,.int .i64 a2]] W fun e w'=>e=.returned (idE (firI ps r (a1,a2)))∧Below W.heap.size W w':=by
  cases ha:methI ps a1 a2 with
  | none =>
    have e:firI ps r (a1,a2)=((0,0),3):=by simp [firI,ha]
    rw [e]
    refine r9Fno W b r a1 a2 (methI ps a1 a2).isSome (plcI ps r).isSome (by rw [ha];rfl) (fun w hb=>r9is_c (h.below hb) ht a1 a2) (fun w hb=>rIn_t (h.below hb) ht r)
  | some ma =>
    rcases plcI_cases ps r with ⟨e,_⟩|⟨k,q,rfl,hq,e⟩
    · have e2:firI ps r (a1,a2)=((0,0),3):=by simp [firI,ha,e]
      rw [e2]
      refine r9Fno W b r a1 a2 (methI ps a1 a2).isSome (plcI ps r).isSome (by rw [e];simp) (fun w hb=>r9is_c (h.below hb) ht a1 a2) (fun w hb=>rIn_t (h.below hb) ht r)
    · have hk:=(List.getElem?_eq_some_iff.1 hq).1
      refine r9Fw W b (k:Int) a1 a2 (chL (ps.map nd) k) (chL (ps.map nd) k).length (chL_len ht.wi hk) rfl (fun A=>(∀ y,y∈A↔Ov ps (a1,a2) y)∧A.Nodup) (firI ps (k:Int) (a1,a2)) (fun A hA=>?_) (fun w hb=>?_) (fun w hb=>?_) (fun w hb=>r9all_any (h.below hb) ht hJ hS hU hz a1 a2 ma ha) (fun w hb=>rChain_yes (h.below hb) ht k hk)
      · rw [fir_canon ht.wi hU (a:=(a1,a2)) ha hq]
        exact firA_canon ht.wi hU (a:=(a1,a2)) ha hA.1 _
      · have:=r9is_c (h.below hb) ht a1 a2
        rw [ha] at this
        exact this
      · have:=rIn_t (h.below hb) ht (k:Int)
        rw [e] at this
        exact this
def srtA (A:List (Int×Int)) (c:Nat):List (Int×Int):=(List.range c).flatMap (fun k:Nat=>A.filter (fun y=>y.1 == (k:Int)))
theorem srtA_succ (A:List (Int×Int)) (c:Nat):srtA A (c+1)=srtA A c++A.filter (fun y=>y.1 == (c:Int)):=by
  rw [srtA,List.range_succ,List.flatMap_append,srtA];simp
theorem srtA_len (A:List (Int×Int)):∀ c,(srtA A c).length≤c * A.length
  | 0=>by simp [srtA]
  | c+1=>by
    rw [srtA_succ,List.length_append,Nat.add_mul,Nat.one_mul]
    have:=srtA_len A c
    have:=List.length_filter_le (fun y:Int×Int=>y.1 == (c:Int)) A
    omega
theorem fil_at {A:List (Int×Int)} {p:Int×Int→Bool} {j:Nat} {y:Int×Int} (h:A[j]?=some y):(A.take (j+1)).filter p=(A.take j).filter p++(if p y then [y] else []):=by
  rw [List.take_add_one,h,Option.toList_some,List.filter_append]
  congr 1
  by_cases hp:p y <;> simp [hp]
set_option maxHeartbeats 8000000 in
theorem r9Aw (W:World) (b:Nat) (a1 a2:Int) (K:Nat) (hK:K≤300) (PA:List (Int×Int)→Prop) (R:List (Int×Int)) (HPR:Hid (∀ A,PA A→srtA A K=R))
    (HI:Hid (∀ w,Below W.heap.size W w→Calls Tryz.prog 66 #[.pointer (some ⟨b,0,none⟩),.agg #[.int .i64 a1,.int .i64 a2]] w fun e w'=>e=.returned (.bool true)∧Below w.heap.size w w'))
    (HHD:Hid (∀ w,Below W.heap.size W w→∃ a cap,w.cell? ⟨b,0,none⟩=some (.slice a K cap)))
    (HL:Hid (∀ w,Below W.heap.size W w→Calls Tryz.prog 73 #[.pointer (some ⟨b,0,none⟩),.agg #[.int .i64 a1,.int .i64 a2]] w fun e w'=>(∃ v A,e=.returned v∧w'.ownsRow w.heap.size 24 2 v A.length (flatD A)∧A.length≤300∧PA A)∧Below w.heap.size w w')) :
    Calls Tryz.prog 26 #[.pointer (some ⟨b,0,none⟩),.agg #[.int .i64 a1,.int .i64 a2]] W fun e w'=>(∃ v,e=.returned (.tuple #[v,.int .i64 0])∧w'.ownsRow W.heap.size 24 2 v R.length (flatD R))∧Below W.heap.size W w':=by
  obtain ⟨j0,hj0,hy0,hy1,hy2⟩:=info_parts Tryz.hinfoD
  go_enter Tryz.func26,Tryz.ntmps26
  go_wp2_with (first
    | (go_at_call 66;refine (HI.out _ (by repeat (first|exact Below.refl _ _|refine Below.setCell ?_ (by simp;try omega) _|refine Below.alloc ?_ (by simp;try omega) _|refine Below.drew ?_))).mono ?_;rintro e w1 ⟨rfl,hb⟩;have abd:=kp2 (n:=W.heap.size) hb (by simp) (halloc1 _ _);obtain ⟨abB,ab0,ab1,abf,abL,abN⟩:=abd;have B1:Hid (Below W.heap.size W w1):=bstep (by repeat (first|exact Below.refl _ _|refine Below.setCell ?_ (by simp;try omega) _|refine Below.alloc ?_ (by simp;try omega) _|refine Below.drew ?_)) hb;clear hb HI)
    | (go_at_call 73;refine (HL.out _ B1.out).mono ?_;rintro e w2 ⟨⟨v,A,rfl,ho,hA3,hPA⟩,hb⟩;obtain ⟨va,vc,rfl⟩:=ownv ho;have OA2:Hid (w2.ownsRow w1.heap.size 24 2 (.slice va A.length vc) A.length (flatD A)):=ho;have HPA:Hid (PA A):=hPA;have B2:Hid (Below W.heap.size W w2):=bstep B1.out hb;clear hb ho hPA HL))
  have HF0:Hid (srtA A K=R):=HPR.out A HPA.out
  clear HPR HPA abB ab0 ab1 abf abL abN
  obtain ⟨T,hT⟩:∃ T,A.length=T:=⟨_,rfl⟩
  have HT:Hid (A.length=T):=hT
  have HSL:Hid (∀ c,(srtA A c).length≤c * 300):=fun c=>Nat.le_trans (srtA_len A c) (Nat.mul_le_mul_left _ hA3)
  rw [hT] at hA3 OA2 ⊢
  clear hT
  go_loopw [7,8] (fun sv kv wr=>∃ (c:Nat),kv=.int .i64 c∧c≤K∧Hid (wr.ownsRow w2.heap.size 24 2 sv (srtA A c).length (flatD (srtA A c)))∧Hid (Below w2.heap.size w2 wr)) (fun _ kv _=>K - (intOf kv).toNat)
  case atStart=>exact ⟨0,rfl,Nat.zero_le _,World.ownsRow_nil _ _ _ _,Below.refl _ _⟩
  case round =>
    obtain ⟨c,rfl,hc,hO,hBo⟩:=hrel
    obtain ⟨sa,sc,rfl⟩:=ownv hO.out
    obtain ⟨ha,hcap,hd⟩:=HHD.out wr (B2.out.trans (hBo.out.mono B2.out.size))
    by_cases hlt:c<K
    · have hcI:(c:Int)<(K:Int):=by omega
      have HNX:Hid (srtA A (c+1)=srtA A c++A.filter (fun y=>y.1 == (c:Int))):=srtA_succ A c
      have hSb:(srtA A c).length≤90000:=Nat.le_trans (HSL.out c) (by omega)
      obtain ⟨S0,hS0⟩:∃ S0,srtA A c=S0:=⟨_,rfl⟩
      rw [hS0] at hO HNX hSb ⊢
      obtain ⟨wo,hwo⟩:∃ w,w=wr:=⟨_,rfl⟩
      subst hwo
      clear hS0
      go_wp2
      go_loopw [7,9] (fun sv jv wr=>∃ (j:Nat),jv=.int .i64 j∧j≤T∧Hid (wr.ownsRow w2.heap.size 24 2 sv (S0++(A.take j).filter (fun y=>y.1 == (c:Int))).length (flatD (S0++(A.take j).filter (fun y=>y.1 == (c:Int)))))∧Hid (Below w2.heap.size w2 wr)) (fun _ jv _=>T - (intOf jv).toNat)
      case atStart=>exact ⟨0,rfl,Nat.zero_le _,by rw [List.take_zero,List.filter_nil,List.append_nil];exact hO,hBo⟩
      case round =>
        obtain ⟨j,rfl,hj,hOj,hBj⟩:=hrel
        obtain ⟨xa,xc,rfl⟩:=ownv hOj.out
        by_cases hlj:j<T
        · have hjI:(j:Int)<(T:Int):=by omega
          obtain ⟨y,hy⟩:∃ y,A[j]?=some y:=⟨_,List.getElem?_eq_getElem (by rw [HT.out];exact hlj)⟩
          obtain ⟨ga,c3,hform2⟩:=Go.Joins.ownsRow_form OA2.out (by omega)
          injection hform2 with hca2 _ hcc2
          subst hca2 hcc2
          obtain ⟨d0,d1,hgl⟩:=rowD_cells (l:=A) (i:=j) (x:=y) (by rw [HT.out];exact OA2.out) hy
          replace d0:=(hBj.out.cell (p:=⟨ga,j * 2,none⟩) hgl).trans d0
          replace d1:=(hBj.out.cell (p:=⟨ga,j * 2+1,none⟩) hgl).trans d1
          have HFA:Hid _:=fil_at (p:=fun y=>y.1 == (c:Int)) hy
          have hXb:(S0++(A.take j).filter (fun y=>y.1 == (c:Int))).length≤90300:=by
            rw [List.length_append]
            have h1:=List.length_filter_le (fun y:Int×Int=>y.1 == (c:Int)) (A.take j)
            rw [List.length_take] at h1
            omega
          obtain ⟨y1,y2⟩:=y
          simp only at d0 d1 HFA
          clear hy
          by_cases hyc:y1=(c:Int)
          · subst hyc
            have HN2:Hid (S0++(A.take (j+1)).filter (fun y=>y.1 == (c:Int))=(S0++(A.take j).filter (fun y=>y.1 == (c:Int)))++[((c:Int),y2)]):=by
              rw [Hid,HFA.out,if_pos (by simp),List.append_assoc]
            generalize S0++(A.take j).filter (fun y=>y.1 == (c:Int))=X at *
            clear HFA
            go_wp2_with (at_builtin;refine wpList_append_own _ rfl _ _ 39 rfl w2.heap.size 24 j0 (.agg #[.int .i64 0,.int .i64 0]) 2 16 Tryz.underlying39 hj0 hy0 hy1 hy2 rfl (by decide) (.slice xa X.length xc) X.length (flatD X) rfl (hOj.out.alloc _) ⟨wr.heap.size,0,none⟩ 1 1 [.int .i64 (c:Int),.int .i64 y2] rfl rfl ?c1 ?c2 ?c3 ?c4 ?c5 ?_)
            case c2=>exact ⟨rfl,rfl⟩
            case c3=>unfold maxLen;omega
            case c4=>omega
            case c5=>have:=hBj.out.size;simp;omega
            intro v' w4 hown hgrow _
            obtain ⟨va2,vn2,rfl⟩:=ownv hown
            have B4:Hid (Below w2.heap.size w2 w4):=by
              have hb1:Below w2.heap.size w2 (wr.alloc (.cells #[.int .i64 (c:Int),.int .i64 y2] 24)):=hBj.out.alloc hBj.out.size _
              refine hb1.grown hgrow hb1.size (fun x hx=>?_)
              have:=(hOj.out.lt x hx).1
              omega
            have O4:Hid (w4.ownsRow w2.heap.size 24 2 (.slice va2 (X.length+1) vn2) (X++[((c:Int),y2)]).length (flatD (X++[((c:Int),y2)]))):=by
              rw [Hid,List.length_append,flatD_app];exact hown
            clear hown hgrow
            go_wp2
            go_roundw
            case rel=>exact ⟨j+1,by go_num,by omega,by rw [HN2.out];exact O4,B4⟩
            case measure=>simp [intOf];omega
          · have hyb:(y1 == (c:Int))=false:=by simp [hyc]
            have HN2:Hid (S0++(A.take (j+1)).filter (fun y=>y.1 == (c:Int))=S0++(A.take j).filter (fun y=>y.1 == (c:Int))):=by
              rw [Hid,HFA.out,if_neg (by simp [hyc]),List.append_nil]
            clear HFA
            generalize S0++(A.take j).filter (fun y=>y.1 == (c:Int))=X at *
            go_wp2
            go_roundw
            case rel=>exact ⟨j+1,by go_num,by omega,by rw [HN2.out];exact hOj,hBj⟩
            case measure=>simp [intOf];omega
        · have e:j=T:=by omega
          subst e
          have O5:Hid (wr.ownsRow w2.heap.size 24 2 (.slice xa (S0++(A.take j).filter (fun y=>y.1 == (c:Int))).length xc) (srtA A (c+1)).length (flatD (srtA A (c+1)))):=by
            have:=hOj.out
            rw [List.take_of_length_le (by rw [HT.out];exact Nat.le_refl _),← HNX.out] at this
            rw [List.take_of_length_le (by rw [HT.out];exact Nat.le_refl _),← HNX.out]
            exact this
          generalize (S0++(A.take j).filter (fun y=>y.1 == (c:Int))).length=LL at *
          clear HNX hOj
          go_wp2
          go_roundw
          case rel=>exact ⟨c+1,by go_num,by omega,O5,hBj⟩
          case measure=>simp [intOf];omega
    · have e:c=K:=by omega
      subst e
      have O9:Hid (wr.ownsRow W.heap.size 24 2 (.slice sa (srtA A c).length sc) R.length (flatD R)):=by
        have:=hO.out
        rw [HF0.out] at this
        rw [HF0.out]
        exact Go.Joins.ownsRow_le this B2.out.size
      generalize (srtA A c).length=LL at *
      go_wp2
      exact bodyPost_ret (results_tmp2 rfl _ _ _) rfl ⟨⟨_,rfl,O9.out⟩,B2.out.trans (hBo.out.mono B2.out.size)⟩
theorem r9Ano (W:World) (b:Nat) (a1 a2:Int)
    (HI:Hid (∀ w,Below W.heap.size W w→Calls Tryz.prog 66 #[.pointer (some ⟨b,0,none⟩),.agg #[.int .i64 a1,.int .i64 a2]] w fun e w'=>e=.returned (.bool false)∧Below w.heap.size w w')) :
    Calls Tryz.prog 26 #[.pointer (some ⟨b,0,none⟩),.agg #[.int .i64 a1,.int .i64 a2]] W fun e w'=>e=.returned (.tuple #[.slice none 0 0,.int .i64 3])∧Below W.heap.size W w':=by
  go_enter Tryz.func26,Tryz.ntmps26
  go_wp2_with (go_at_call 66;refine (HI.out _ (by repeat (first|exact Below.refl _ _|refine Below.setCell ?_ (by simp;try omega) _|refine Below.alloc ?_ (by simp;try omega) _|refine Below.drew ?_))).mono ?_;rintro e w1 ⟨rfl,hb⟩;have B1:Hid (Below W.heap.size W w1):=bstep (by repeat (first|exact Below.refl _ _|refine Below.setCell ?_ (by simp;try omega) _|refine Below.alloc ?_ (by simp;try omega) _|refine Below.drew ?_)) hb;clear hb HI)
  exact bodyPost_ret (results_tmp2 rfl _ _ _) rfl ⟨rfl,B1.out⟩
theorem filA {ps:List Plc} (hW:WI ps) (hU:UnqM ps) {a:Int×Int} {ma:HM} (ha:methI ps a.1 a.2=some ma) {A:List (Int×Int)} (hA:∀ y,y∈A↔Ov ps a y) (hN:A.Nodup) (c:Nat):A.filter (fun y=>y.1 == (c:Int))=if ovC ps ma.nm ma.ds a c then [gK ps ma.nm ma.ds c] else []:=by
  have hone:∀ y∈A,y.1=(c:Int)→y=gK ps ma.nm ma.ds c∧ovC ps ma.nm ma.ds a c=true:=fun y hy h1=>by
    obtain ⟨k,_,e,ho,_⟩:=ov_gK hW hU ha ((hA y).1 hy)
    have hk:y.1=(k:Int):=by rw [e];rfl
    obtain rfl:c=k:=by omega
    exact ⟨e,ho⟩
  have hnd:=hN.filter (fun y=>y.1 == (c:Int))
  cases ho:ovC ps ma.nm ma.ds a c with
  | false =>
    rw [if_neg (by simp),List.filter_eq_nil_iff]
    intro y hy h1
    rw [beq_iff_eq] at h1
    rw [(hone y hy h1).2] at ho
    cases ho
  | true =>
    rw [if_pos rfl]
    have hm:gK ps ma.nm ma.ds c∈A.filter (fun y=>y.1 == (c:Int)):=List.mem_filter.2 ⟨(hA _).2 ((ovC_iff hW hU ha).1 ho),by simp [gK]⟩
    have hall:∀ y∈A.filter (fun y=>y.1 == (c:Int)),y=gK ps ma.nm ma.ds c:=fun y hy=>by
      obtain ⟨h1,h2⟩:=List.mem_filter.1 hy
      exact (hone y h1 (beq_iff_eq.1 h2)).1
    generalize A.filter (fun y=>y.1 == (c:Int))=F at *
    match F,hm,hall,hnd with
    | [x],_,hall,_=>rw [hall x (by simp)]
    | x::y::r,_,hall,hnd =>
      have h1:=hall x (by simp)
      have h2:=hall y (by simp)
      exact absurd (h1.trans h2.symm) ((List.pairwise_cons.1 hnd).1 y (by simp))
theorem srt_canon {ps:List Plc} (hW:WI ps) (hU:UnqM ps) {a:Int×Int} {ma:HM} (ha:methI ps a.1 a.2=some ma) {A:List (Int×Int)} (hA:∀ y,y∈A↔Ov ps a y) (hN:A.Nodup):∀ c,srtA A c=((List.range c).filter (ovC ps ma.nm ma.ds a)).map (gK ps ma.nm ma.ds)
  | 0=>rfl
  | c+1=>by
    rw [srtA_succ,srt_canon hW hU ha hA hN c,filA hW hU ha hA hN c,List.range_succ,List.filter_append,List.map_append]
    congr 1
    cases ho:ovC ps ma.nm ma.ds a c <;> simp [ho]
def alvE (ps:List Plc) (a:Int×Int):List (Int×Int)×Int:=match methI ps a.1 a.2 with
  | some m=>((allK ps m.nm m.ds a).map (gK ps m.nm m.ds),0)
  | none=>([],3)
theorem alvE_len {ps:List Plc} (hW:WI ps) (a:Int×Int):(alvE ps a).1.length≤300:=by
  rw [alvE]
  split
  · simp only [List.length_map,allK]
    refine Nat.le_trans (List.length_filter_le _ _) ?_
    rw [List.length_range];exact hW.hi
  · simp
theorem r9All_c {b:Nat} {cs:List Cls} {ps:List Plc} {W:World} (h:RAt b cs W) (ht:TwW cs ps) (hJ:WJ ps) (hS:SndI ps) (hU:UnqM ps) (hz:∀ c∈cs,c.nm.size≤maxLen) (a1 a2:Int):Calls Tryz.prog 26 #[.pointer (some ⟨b,0,none⟩),.agg #[.int .i64 a1,.int .i64 a2]] W fun e w'=>(∃ v,e=.returned (.tuple #[v,.int .i64 (alvE ps (a1,a2)).2])∧w'.ownsRow W.heap.size 24 2 v (alvE ps (a1,a2)).1.length (flatD (alvE ps (a1,a2)).1))∧Below W.heap.size W w':=by
  cases ha:methI ps a1 a2 with
  | none =>
    have e:alvE ps (a1,a2)=([],3):=by simp [alvE,ha]
    rw [e]
    refine (r9Ano W b a1 a2 fun w hb=>?_).mono fun e w' zz=>⟨⟨_,zz.1,World.ownsRow_nil _ _ _ _⟩,zz.2⟩
    have:=r9is_c (h.below hb) ht a1 a2
    rw [ha] at this
    exact this
  | some ma =>
    have e:alvE ps (a1,a2)=((allK ps ma.nm ma.ds (a1,a2)).map (gK ps ma.nm ma.ds),0):=by simp [alvE,ha]
    rw [e]
    have hlen:cs.length=ps.length:=ht.tw.len
    refine r9Aw W b a1 a2 ps.length ht.wi.hi (fun A=>(∀ y,y∈A↔Ov ps (a1,a2) y)∧A.Nodup) _ (fun A hA=>?_) (fun w hb=>?_) (fun w hb=>?_) (fun w hb=>r9all_any (h.below hb) ht hJ hS hU hz a1 a2 ma ha)
    · exact srt_canon ht.wi hU (a:=(a1,a2)) ha hA.1 hA.2 ps.length
    · have:=r9is_c (h.below hb) ht a1 a2
      rw [ha] at this
      exact this
    · rw [← hlen];exact (h.below hb).head
set_option maxHeartbeats 4000000 in
theorem all_no {b:Nat} {ps:List Plc} {W:World} (h:WAt b ps W) (hi:WI ps) (c i:Int) (hm:methI ps c i=none):Calls Tryz.prog 25 #[.pointer (some ⟨b,0,none⟩),.agg #[.int .i64 c,.int .i64 i]] W fun e w'=>e=.returned (.tuple #[.slice none 0 0,.int .i64 3])∧Below W.heap.size W w':=by
  have HR:Hid (∀ w,Below W.heap.size W w→Calls Tryz.prog 74 #[.pointer (some ⟨b,0,none⟩),.agg #[.int .i64 c,.int .i64 i]] w fun e w'=>e=.returned (.tuple #[.agg #[.string ⟨#[]⟩,.string ⟨#[]⟩,.int .i64 0,.int .i64 0,.int .i64 0,.slice none 0 0,.int .i64 0,.int .i64 0,.pointer none],.int .i64 3])∧Below w.heap.size w w'):=fun w hb=>by
    have:=read_c (h.below hb) hi c i
    rw [hm] at this
    exact this
  clear h hi hm
  go_enter Tryz.func25,Tryz.ntmps25
  go_wp2_with (go_at_call 74;refine (HR.out _ (by repeat (first|exact Below.refl _ _|refine Below.setCell ?_ (by simp;try omega) _|refine Below.alloc ?_ (by simp;try omega) _|refine Below.drew ?_))).mono ?_;rintro e w1 ⟨rfl,hb⟩;have B1:Hid (Below W.heap.size W w1):=bstep (by repeat (first|exact Below.refl _ _|refine Below.setCell ?_ (by simp;try omega) _|refine Below.alloc ?_ (by simp;try omega) _|refine Below.drew ?_)) hb;clear hb HR)
  exact bodyPost_ret (results_tmp2 rfl _ _ _) rfl ⟨rfl,(by repeat (first|refine Below.setCell ?_ (by simp;try omega) _|refine Below.alloc ?_ (by have:=B1.out.size;simp;try omega) _|refine Below.drew ?_|exact B1.out))⟩
set_option maxHeartbeats 8000000 in
theorem all_yes {b:Nat} {ps:List Plc} {W:World} (h:WAt b ps W) (hi:WI ps) (k:Nat) (hk:k<ps.length) (i:Int) (m:HM) (hm:methI ps (k:Int) i=some m) (G:List (Int×Int)) (hG:gthL ps ((k:Int),i) (askL ps m ((k:Int),i) (List.range' (k+1) (ps.length - (k+1))))=G):Calls Tryz.prog 25 #[.pointer (some ⟨b,0,none⟩),.agg #[.int .i64 (k:Int),.int .i64 i]] W fun e w'=>(∃ v,e=.returned (.tuple #[v,.int .i64 0])∧w'.ownsRow W.heap.size 24 2 v G.length (flatD G))∧Below W.heap.size W w':=by
  obtain ⟨i0,hi0,hz0,hz1,hz2⟩:=info_parts Tryz.hinfo3
  obtain ⟨j0,hj0,hy0,hy1,hy2⟩:=info_parts Tryz.hinfoD
  have hP3:=hi.hi
  have hGb:G.length≤301:=by
    rw [← hG]
    refine Nat.le_trans (gthL_len _ _ _) ?_
    have:=nskL_len ps m.nm m.ds ((k:Int),i).1 (List.range' (k+1) (ps.length - (k+1)))
    rw [List.length_range'] at this
    rw [askL,List.length_cons]
    omega
  have HR:Hid (∀ w,Below W.heap.size W w→Calls Tryz.prog 74 #[.pointer (some ⟨b,0,none⟩),.agg #[.int .i64 (k:Int),.int .i64 i]] w fun e w'=>(∃ ma mk mo,e=.returned (.tuple #[.agg #[.string m.nm,.string m.ds,.int .i64 m.fl,.int .i64 m.lo,.int .i64 m.st,.slice ma mk mo,.int .i64 (k:Int),.int .i64 i,.pointer (some ⟨b,0,none⟩)],.int .i64 0]))∧Below w.heap.size w w'):=fun w hb=>by
    have:=read_c (h.below hb) hi (k:Int) i
    rw [hm] at this
    exact this
  have HLn:Hid (∀ w,Below W.heap.size W w→Calls Tryz.prog 28 #[.pointer (some ⟨b,0,none⟩)] w fun e w'=>e=.returned (.int .i64 (ps.length:Int))∧w'=w):=fun w hb=>len_c (h.below hb)
  have HG:Hid (∀ w (x:P9) (v:Value),Below W.heap.size W w→OkP ps x→x.id=((k:Int),i)→(x.nm,x.ds,x.c)=(m.nm,m.ds,(k:Int))→Rds w v (ps.length - (k+1)) 1 ((List.range' (k+1) (ps.length - (k+1))).map numV)→Calls Tryz.prog 70 #[x.agg b,v] w fun e w'=>∃ (L:List P9) (g cap:Nat),e=.returned (.slice (some ⟨g,0,none⟩) L.length cap)∧(∀ y∈L,OkP ps y)∧L.map P9.id=G∧w'.ownsRow w.heap.size 93 9 (.slice (some ⟨g,0,none⟩) L.length cap) L.length (flat9 b L)∧Below w.heap.size w w'):=fun w x v hb ho hid hnd hv=>by
    have:=gth_c (h.below hb) hi x ho v (List.range' (k+1) (ps.length - (k+1))) (by rw [List.length_range'];exact hv) (by rw [List.length_range'];omega)
    simp only [Prod.mk.injEq] at hnd
    rw [hid,hnd.1,hnd.2.1,hnd.2.2] at this
    rw [askL] at hG
    rw [hG] at this
    exact this
  have HM:Hid (methI ps (k:Int) i=some m):=hm
  generalize ps.length=P at *
  clear h hi hm hG
  simp only [P9.agg] at HG
  go_enter Tryz.func25,Tryz.ntmps25
  go_wp2_with (go_at_call 74;refine (HR.out _ (by repeat (first|exact Below.refl _ _|refine Below.setCell ?_ (by simp;try omega) _|refine Below.alloc ?_ (by simp;try omega) _|refine Below.drew ?_))).mono ?_;rintro e w1 ⟨⟨ma,mk,mo,rfl⟩,hb⟩;have abd:=kp2 (n:=W.heap.size) hb (by simp) (halloc1 _ _);obtain ⟨abB,ab0,ab1,abf,abL,abN⟩:=abd;have B1:Hid (Below W.heap.size W w1):=bstep (by repeat (first|exact Below.refl _ _|refine Below.setCell ?_ (by simp;try omega) _|refine Below.alloc ?_ (by simp;try omega) _|refine Below.drew ?_)) hb;clear hb HR)
  obtain ⟨U,hU⟩:∃ U,U=w1.alloc (.cells #[.string m.nm,.string m.ds,.int .i64 m.fl,.int .i64 m.lo,.int .i64 m.st,.slice ma mk mo,.int .i64 (k:Int),.int .i64 i,.pointer (some ⟨b,0,none⟩)] 93):=⟨_,rfl⟩
  have BU:Hid (Below W.heap.size W U):=by rw [hU];exact B1.out.alloc B1.out.size _
  have HX:Hid (U.heap[w1.heap.size]?=some (.cells #[.string m.nm,.string m.ds,.int .i64 m.fl,.int .i64 m.lo,.int .i64 m.st,.slice ma mk mo,.int .i64 (k:Int),.int .i64 i,.pointer (some ⟨b,0,none⟩)] 93 (0,0))):=by rw [hU];exact halloc1 _ _
  have hxl:w1.heap.size<U.heap.size:=by rw [hU];simp
  rw [← hU]
  clear hU abB ab0 ab1 abf abL abN
  go_loopw [8,9] (fun sv kv wr=>∃ n:Nat,kv=.int .i64 ((k+1+n:Nat):Int)∧k+1+n≤P∧Hid (wr.ownsRow U.heap.size 3 1 sv n ((List.range' (k+1) n).map numV))∧Hid (Below U.heap.size U wr)) (fun _ kv _=>P - (intOf kv).toNat)
  case atStart=>exact ⟨0,by go_num,by omega,World.ownsRow_nil _ _ _ _,Below.refl _ _⟩
  case round =>
    obtain ⟨n,rfl,hn,hO,hB⟩:=hrel
    have BWr:Hid (Below W.heap.size W wr):=BU.out.trans (hB.out.mono BU.out.size)
    obtain ⟨va,vn,rfl⟩:=ownv hO.out
    have HL1:Hid (Calls Tryz.prog 28 #[.pointer (some ⟨b,0,none⟩)] wr fun e w'=>e=.returned (.int .i64 (P:Int))∧w'=wr):=HLn.out wr BWr.out
    by_cases hlt:k+1+n<P
    · have hltI:((k+1+n:Nat):Int)<(P:Int):=by omega
      have hst:(List.range' (k+1) (n+1)).map numV=(List.range' (k+1) n).map numV++[numV (k+1+n)]:=by rw [List.range'_1_concat,List.map_append];rfl
      have HST:Hid _:=hst
      obtain ⟨c,hc⟩:∃ c,c=k+1+n:=⟨_,rfl⟩
      rw [← hc] at hltI HST ⊢
      have HC:Hid (c=k+1+n):=hc
      have hc3:c≤300:=by omega
      have hn3:n≤300:=by omega
      generalize (List.range' (k+1) n).map numV=X at *
      clear hst hc
      go_wp2_with (first
        | (go_at_call 28;refine HL1.out.mono ?_;rintro e w9 ⟨rfl,hw9⟩;rw [hw9];clear hw9 w9 HL1)
        | (at_builtin;refine wpList_append_own _ rfl _ _ 99 rfl U.heap.size 3 i0 (.int .i64 0) 1 8 Tryz.underlying99 hi0 hz0 hz1 hz2 rfl (by decide) (.slice va n vn) n X rfl (hO.out.alloc _) ⟨wr.heap.size,0,none⟩ 1 1 [.int .i64 (c:Int)] rfl rfl ?c1 ?c2 ?c3 ?c4 ?c5 ?_))
      case c1=>intro jj u hj;rw [addr_add];cases jj with
        | zero=>simp at hj;subst hj;simp [go_sem]
        | succ jj=>simp at hj
      case c2=>intro u hu;simp at hu;subst hu;rfl
      case c3=>unfold maxLen;omega
      case c4=>omega
      case c5=>have:=hB.out.size;simp;omega
      intro v' w2 hown hgrow _
      obtain ⟨va2,vn2,rfl⟩:=ownv hown
      have B2:Hid (Below U.heap.size U w2):=by
        have hb1:Below U.heap.size U (wr.alloc (.cells #[.int .i64 (c:Int)] 3)):=hB.out.alloc hB.out.size _
        refine hb1.grown hgrow hb1.size (fun x hx=>?_)
        have:=(hO.out.lt x hx).1
        omega
      have O2:Hid (w2.ownsRow U.heap.size 3 1 (.slice va2 (n+1) vn2) (n+1) ((List.range' (k+1) (n+1)).map numV)):=by
        rw [Hid,HST.out];exact hown
      clear hown hgrow
      go_wp2
      go_roundw
      case rel=>exact ⟨n+1,by rw [HC.out];go_num,by have:=HC.out;omega,O2,B2⟩
      case measure=>have:=HC.out;simp [intOf];omega
    · have en:n=P - (k+1):=by omega
      have hltI:¬ ((k+1+n:Nat):Int)<(P:Int):=by omega
      have D1:Hid (Rds wr (.slice va n vn) (P - (k+1)) 1 ((List.range' (k+1) (P - (k+1))).map numV)):=by rw [Hid,← en];exact own_rds hO.out
      obtain ⟨p0,p1,p2,p3,p4,p5,p6,p7,p8,pL⟩:=row9 ((hB.out.block w1.heap.size hxl).trans HX.out)
      have EN:Hid (n=P - (k+1)):=en
      clear en
      go_wp2_with (first
        | (go_at_call 28;refine HL1.out.mono ?_;rintro e w9 ⟨rfl,hw9⟩;rw [hw9];clear hw9 w9 HL1)
        | (go_at_call 70;refine (HG.out wr ⟨m.nm,m.ds,m.fl,m.lo,m.st,ma,mk,mo,(k:Int),i⟩ (.slice va n vn) BWr.out ⟨m,HM.out,rfl,rfl,rfl⟩ rfl rfl D1.out).mono ?_;rintro e w4 ⟨L,g,cap,rfl,hok,hid,ho,hb⟩;have ID4:Hid (L.map P9.id=G):=hid;have O4:Hid (w4.ownsRow wr.heap.size 93 9 (.slice (some ⟨g,0,none⟩) L.length cap) L.length (flat9 b L)):=ho;have B4:Hid (Below W.heap.size W w4):=bstep BWr.out hb;clear hb ho hok hid HG))
      clear p0 p1 p2 p3 p4 p5 p6 p7 p8 pL
      obtain ⟨T,hT⟩:∃ T,L.length=T:=⟨_,rfl⟩
      have HT:Hid (L.length=T):=hT
      have HGT:Hid (G.length=T):=by rw [Hid,← ID4.out,List.length_map];exact hT
      have hT3:T≤301:=by rw [← HGT.out];exact hGb
      rw [hT] at O4 ⊢
      clear hT
      go_loopw [10,39] (fun sv kv wr=>∃ j:Nat,kv=.int .i64 j∧j≤T∧Hid (wr.ownsRow w4.heap.size 24 2 sv j (flatD (G.take j)))∧Hid (Below w4.heap.size w4 wr)) (fun _ kv _=>T - (intOf kv).toNat)
      case atStart=>exact ⟨0,rfl,Nat.zero_le _,World.ownsRow_nil _ _ _ _,Below.refl _ _⟩
      case round =>
        obtain ⟨j,rfl,hj,hOj,hBj⟩:=hrel
        obtain ⟨xa,xc,rfl⟩:=ownv hOj.out
        by_cases hlj:j<T
        · have hjI:(j:Int)<(T:Int):=by omega
          obtain ⟨y,hy⟩:∃ y,L[j]?=some y:=⟨_,List.getElem?_eq_getElem (by rw [HT.out];exact hlj)⟩
          have hgy:G[j]?=some y.id:=by rw [← ID4.out,List.getElem?_map,hy];rfl
          have HTK:Hid (flatD (G.take (j+1))=flatD (G.take j)++[.int .i64 y.c,.int .i64 y.i]):=by
            rw [Hid,List.take_add_one,hgy,Option.toList_some,flatD_app];rfl
          obtain ⟨e0,e1,e2,e3,e4,e5,e6,e7,e8,gL⟩:=row9_cells (rowBelow O4.out hBj.out) hy
          obtain ⟨yn,yd,yf,yl,ys,ya,yk,yo,yc,yi⟩:=y
          simp only at e0 e1 e2 e3 e4 e5 e6 e7 e8 HTK
          generalize flatD (G.take j)=X at hOj HTK
          clear hy hgy
          go_wp2_with (at_builtin;refine wpList_append_own _ rfl _ _ 39 rfl w4.heap.size 24 j0 (.agg #[.int .i64 0,.int .i64 0]) 2 16 Tryz.underlying39 hj0 hy0 hy1 hy2 rfl (by decide) (.slice xa j xc) j X rfl ((hOj.out.alloc _).alloc _) ⟨wr.heap.size+1,0,none⟩ 1 1 [.int .i64 yc,.int .i64 yi] rfl rfl ?c1 ?c2 ?c3 ?c4 ?c5 ?_)
          case c1=>intro jj u hj;rw [addr_add];match jj,hj with
            | 0,hj=>simp at hj;subst hj;simp [go_sem]
            | 1,hj=>simp at hj;subst hj;simp [go_sem]
            | (jj+2),hj=>simp at hj
          case c2=>intro u hu;simp at hu;rcases hu with rfl|rfl <;> rfl
          case c3=>unfold maxLen;omega
          case c4=>omega
          case c5=>have:=hBj.out.size;simp;omega
          intro v' w6 hown hgrow _
          obtain ⟨va2,vn2,rfl⟩:=ownv hown
          have B6:Hid (Below w4.heap.size w4 w6):=by
            refine Below.grown (w:=(wr.alloc (.cells #[.string yn,.string yd,.int .i64 yf,.int .i64 yl,.int .i64 ys,.slice ya yk yo,.int .i64 yc,.int .i64 yi,.pointer (some ⟨b,0,none⟩)] 93)).alloc (.cells #[.int .i64 yc,.int .i64 yi] 24)) ?_ hgrow ?_ (fun x hx=>?_)
            · exact (hBj.out.alloc hBj.out.size _).alloc (by have:=hBj.out.size;simp;omega) _
            · have:=hBj.out.size;simp;omega
            · have:=(hOj.out.lt x hx).1
              omega
          have O6:Hid (w6.ownsRow w4.heap.size 24 2 (.slice va2 (j+1) vn2) (j+1) (flatD (G.take (j+1)))):=by
            rw [Hid,HTK.out];exact hown
          clear hown hgrow
          go_wp2
          go_roundw
          case rel=>exact ⟨j+1,by go_num,by omega,O6,B6⟩
          case measure=>simp [intOf];omega
        · have e:j=T:=by omega
          subst e
          have O9:Hid (wr.ownsRow W.heap.size 24 2 (.slice xa j xc) G.length (flatD G)):=by
            have:=hOj.out
            rw [List.take_of_length_le (by rw [HGT.out];exact Nat.le_refl _)] at this
            rw [Hid,HGT.out]
            exact Go.Joins.ownsRow_le this B4.out.size
          go_wp2
          exact bodyPost_ret (results_tmp2 rfl _ _ _) rfl ⟨⟨_,rfl,O9.out⟩,B4.out.trans (hBj.out.mono B4.out.size)⟩
end Go.Proofs.YtjlfnelihbdhjaaGreat
