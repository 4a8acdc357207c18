import Derived.Test.YtjlfnelihbdhjaaGreatRnF
import Derived.Test.YtjlfnelihbdhjaaGreatHrP
import Derived.Test.YtjlfnelihbdhjaaGreatHrQ
import Derived.Test.YtjlfnelihbdhjaaGreatOwnX
import Derived.Test.YtjlfnelihbdhjaaGreatCurB
import Derived.Test.YtjlfnelihbdhjaaGreatTypesPure
import Derived.Test.YtjlfnelihbdhjaaGreatGrA
import Derived.Test.YtjlfnelihbdhjaaGreatHrS
import Derived.Test.YtjlfnelihbdhjaaGreatHrT
import Derived.Test.YtjlfnelihbdhjaaGreatHrH
import Derived.Test.YtjlfnelihbdhjaaGreatHrY
import Derived.Test.YtjlfnelihbdhjaaGreatHrZ
import Derived.Test.YtjlfnelihbdhjaaGreatMxC
import Derived.Test.YtjlfnelihbdhjaaGreatTypesParse
import Derived.Test.YtjlfnelihbdhjaaGreatSoD
import Derived.Test.YtjlfnelihbdhjaaGreatOwnRefs
import Derived.Test.YtjlfnelihbdhjaaGreatOwnL
import Derived.Test.YtjlfnelihbdhjaaGreatOvB
import Derived.Lib.Join
import GoSem.Op.String
import Derived.Deep.QuietTactic
import Derived.BigQuiet
import Derived.Deep.DeepCutAuto
import Derived.Laws.IdiomStrings
import Derived.Deep.LoopGhost
import Derived.IntWalk
import Derived.Maps.AppendAt
import Derived.Lib.SmallJoins
import Derived.Deep.RegionHeld3
set_option maxRecDepth 100000
namespace Go.Proofs.YtjlfnelihbdhjaaGreat
open Go.RowKit Go.Maps
def ovC (ps:List Plc) (nm ds:ByteArray) (a:Int×Int) (k:Nat):Bool:=decide ((fndI ps (k:Int) nm ds).2=0)&&(ovrI ps (gK ps nm ds k) a).1
theorem ov_st {ps:List Plc} {a x:Int×Int} (h:Ov ps a x):stI ps a=false:=by
  obtain ⟨n,hn⟩:=h
  induction n generalizing x with
  | zero=>exact hn.2
  | succ n ih=>obtain ⟨y,hy,_⟩:=hn;exact ih hy
theorem ovC_iff {ps:List Plc} (hW:WI ps) (hU:UnqM ps) {a:Int×Int} {ma:HM} (ha:methI ps a.1 a.2=some ma) {k:Nat}:ovC ps ma.nm ma.ds a k=true↔Ov ps a (gK ps ma.nm ma.ds k):=by
  constructor
  · intro h
    rw [ovC,Bool.and_eq_true] at h
    cases hx:methI ps (gK ps ma.nm ma.ds k).1 (gK ps ma.nm ma.ds k).2 with
    | none=>have:=h.2;simp [ovrI,hx] at this
    | some mx=>exact (ovr_iff hW hU ha hx).2.1 h.2
  · intro h
    obtain ⟨n,hn⟩:=h
    obtain ⟨mx,hmx,e1,e2,_⟩:=ovN_facts hW ha n _ hn
    have hf:=hU.fnd hmx e1 e2
    rw [ovC,Bool.and_eq_true,decide_eq_true_iff]
    refine ⟨?_,(ovr_iff hW hU ha hmx).2.2 ⟨n,hn⟩⟩
    have:(gK ps ma.nm ma.ds k).1=(k:Int):=rfl
    rw [this] at hf
    rw [hf]
theorem ov_gK {ps:List Plc} (hW:WI ps) (hU:UnqM ps) {a:Int×Int} {ma:HM} (ha:methI ps a.1 a.2=some ma) {x:Int×Int} (h:Ov ps a x):∃ k,k<ps.length∧x=gK ps ma.nm ma.ds k∧ovC ps ma.nm ma.ds a k=true∧a.1≤(k:Int):=by
  obtain ⟨n,hn⟩:=h
  obtain ⟨mx,hmx,e1,e2,_,e4,_⟩:=ovN_facts hW ha n _ hn
  obtain ⟨k,hk,e,_⟩:=gK_self hU hmx e1 e2
  refine ⟨k,hk,e.symm,(ovC_iff hW hU ha).2 (e ▸ ⟨n,hn⟩),?_⟩
  have h1:=extI_le hW e4
  have h2:(k:Int)=x.1:=by rw [← e];rfl
  omega
theorem ovC_le {ps:List Plc} (hW:WI ps) (hU:UnqM ps) {a:Int×Int} {ma:HM} (ha:methI ps a.1 a.2=some ma) {k:Nat} (h:ovC ps ma.nm ma.ds a k=true):a.1≤(k:Int)∧k<ps.length:=by
  obtain ⟨j,hj,e,_,h4⟩:=ov_gK hW hU ha ((ovC_iff hW hU ha).1 h)
  have:(k:Int)=(j:Int):=congrArg Prod.fst e
  omega
theorem gth_canon {ps:List Plc} (hW:WI ps) (hU:UnqM ps) {a:Int×Int} {ma:HM} (ha:methI ps a.1 a.2=some ma) {l:List Nat} (hasc:l.Pairwise (· < ·)) (hcl:∀ d∈l,∀ j:Nat,extI ps (d:Int) (j:Int)=true→ifcI ps (j:Int)=false→a.1<(j:Int)→j∈l):∀ n,gthL ps a (askL ps ma a (l.take n))=(if stI ps a then [] else [a])++((l.take n).filter fun k=>ovC ps ma.nm ma.ds a k&&((k:Int) != a.1)).map (gK ps ma.nm ma.ds):=by
  intro n
  induction n with
  | zero =>
    rw [List.take_zero,askL,nskL,gthL,List.foldl_cons,List.foldl_nil,gth1,eqI_iff.2 rfl]
    cases stI ps a <;> simp
  | succ n ih =>
    by_cases hn:n<l.length
    · obtain ⟨d,hd⟩:∃ d,l[n]?=some d:=⟨_,List.getElem?_eq_getElem hn⟩
      have hst:=nskL_take (ps:=ps) (nm:=ma.nm) (ds:=ma.ds) (a:=a.1) hd
      have hask:askL ps ma a (l.take (n+1))=askL ps ma a (l.take n)++(if (fndI ps (d:Int) ma.nm ma.ds).2=0∧(d:Int)≠a.1 then [gK ps ma.nm ma.ds d] else []):=by rw [askL,hst,askL,List.cons_append];rfl
      rw [hask,List.take_add_one,hd,Option.toList_some,List.filter_append,List.map_append]
      by_cases hc:(fndI ps (d:Int) ma.nm ma.ds).2=0∧(d:Int)≠a.1
      · rw [if_pos hc,gthL_snoc,gth1]
        have he:eqI (gK ps ma.nm ma.ds d) a=false:=by
          cases e:eqI (gK ps ma.nm ma.ds d) a with
          | false=>rfl
          | true=>rw [eqI_iff] at e;exact absurd (congrArg Prod.fst e) hc.2
        have hk:(gthL ps a (askL ps ma a (l.take n))).any (plI ps (gK ps ma.nm ma.ds d))=ovC ps ma.nm ma.ds a d:=by
          rw [Bool.eq_iff_iff,ovC_iff hW hU ha]
          constructor
          · intro h
            obtain ⟨y,hy,hp⟩:=List.any_eq_true.1 h
            exact (gth_ov _ [] (fun y hy=>by cases hy) y hy:Ov ps a y).step hp
          · intro h
            have hs:=ov_st h
            obtain ⟨m,hm⟩:=h
            cases m with
            | zero=>exact absurd (congrArg Prod.fst hm.1) hc.2
            | succ m =>
              obtain ⟨y,hy,hp⟩:=hm
              refine List.any_eq_true.2 ⟨y,?_,hp⟩
              obtain ⟨my,hmy,e1,e2,_,_,e5⟩:=ovN_facts hW ha m y hy
              rw [ih,hs]
              rcases e5 with rfl|⟨hif,hlt⟩
              · exact List.mem_append_left _ (List.mem_singleton.2 rfl)
              · obtain ⟨j,hj,ej,hoj,_⟩:=ov_gK hW hU ha ⟨m,hy⟩
                obtain ⟨_,_,_,_,_,_,_,_,hne,_,hex⟩:=pl_facts hp
                have hy1:y.1=(j:Int):=by rw [ej];rfl
                have hd1:(gK ps ma.nm ma.ds d).1=(d:Int):=rfl
                rw [hy1] at hif hlt hne hex
                rw [hd1] at hne hex
                have hle:=extI_le hW hex
                have hjl:=hcl d (List.mem_of_getElem? hd) j hex hif hlt
                refine List.mem_append_right _ (List.mem_map.2 ⟨j,List.mem_filter.2 ⟨take_lt hasc hd hjl (by omega),?_⟩,ej.symm⟩)
                rw [hoj,Bool.true_and,bne_iff_ne]
                omega
        rw [he,hk,Bool.false_and,Bool.false_or,ih]
        have hb:((d:Int) != a.1)=true:=by rw [bne_iff_ne];exact hc.2
        cases ho:ovC ps ma.nm ma.ds a d with
        | true=>simp [ho,hb,List.append_assoc]
        | false=>simp [ho]
      · rw [if_neg hc,List.append_nil,ih]
        have:(ovC ps ma.nm ma.ds a d&&((d:Int) != a.1))=false:=by
          rw [ovC]
          by_cases h1:(fndI ps (d:Int) ma.nm ma.ds).2=0
          · have h2:(d:Int)=a.1:=Decidable.not_not.1 fun h=>hc ⟨h1,h⟩
            rw [h2];simp
          · simp [h1]
        simp [this]
    · rw [List.take_of_length_le (by omega)] at ih ⊢
      exact ih
theorem last_max {F:List Nat} (h:F.Pairwise (· < ·)) {j:Nat} (hj:F.getLast?=some j):j∈F∧∀ x∈F,x≤j:=by
  rcases List.eq_nil_or_concat F with rfl|⟨F0,y,rfl⟩
  · cases hj
  · rw [List.concat_eq_append] at h hj ⊢
    rw [List.getLast?_append] at hj
    simp at hj
    subst hj
    refine ⟨by simp,fun x hx=>?_⟩
    rcases List.mem_append.1 hx with hx|hx
    · exact Nat.le_of_lt ((List.pairwise_append.1 h).2.2 x hx y (by simp))
    · rw [List.mem_singleton] at hx;omega
theorem find_desc {p:Nat→Bool}:∀ {l:List Nat},l.Pairwise (· > ·)→∀ {j:Nat},j∈l→p j=true→(∀ x∈l,p x=true→x≤j)→l.find? p=some j
  | [],_,_,h,_,_=>by cases h
  | y::r,hp,j,hj,hpj,hm=>by
    rw [List.find?_cons]
    rw [List.pairwise_cons] at hp
    cases hy:p y with
    | true =>
      rcases List.mem_cons.1 hj with rfl|hj
      · rfl
      · have h1:=hm y (by simp) hy
        have h2:=hp.1 j hj
        omega
    | false =>
      rcases List.mem_cons.1 hj with rfl|hj
      · rw [hy] at hpj;cases hpj
      · exact find_desc hp.2 hj hpj fun x hx h=>hm x (List.mem_cons_of_mem _ hx) h
def firD (ps:List Plc) (nm ds:ByteArray) (a:Int×Int) (l:List Nat):(Int×Int)×Int:=match l.find? (ovC ps nm ds a) with
  | some j=>(gK ps nm ds j,0)
  | none=>((0,0),6)
theorem firD_some {ps:List Plc} {nm ds:ByteArray} {a:Int×Int} {l:List Nat} {j:Nat} (h:l.find? (ovC ps nm ds a)=some j):firD ps nm ds a l=(gK ps nm ds j,0):=by rw [firD,h]
theorem firD_none {ps:List Plc} {nm ds:ByteArray} {a:Int×Int} {l:List Nat} (h:∀ x∈l,ovC ps nm ds a x=false):firD ps nm ds a l=((0,0),6):=by
  have:l.find? (ovC ps nm ds a)=none:=by rw [List.find?_eq_none];intro x hx;rw [h x hx];simp
  rw [firD,this]
theorem ch_closed {ps:List Plc} (hW:WI ps) {k:Nat} (hk:k<ps.length) {d:Nat} (hd:d∈chL (ps.map nd) k) {j:Nat} (hex:extI ps (d:Int) (j:Int)=true) (hif:ifcI ps (j:Int)=false):j∈chL (ps.map nd) k:=by
  have hkl:k<(ps.map nd).length:=by simpa using hk
  obtain ⟨i,j2,hi,hj,hil,hjl,he⟩:=extI_split hex
  obtain rfl:d=i:=by omega
  obtain rfl:j=j2:=by omega
  refine ch_trans hW.wo k hkl d hd j ?_
  rcases (ext_iff _ _ _).1 he with h|h
  · exact h
  · exfalso
    obtain ⟨_,_,p,hp1,hp2,_⟩:=cl_facts hW.wo h
    rw [ifcI,plcI_nat] at hif
    rw [List.getElem?_map] at hp1
    obtain ⟨q,hq,rfl⟩:=Option.map_eq_some_iff.1 hp1
    rw [hq] at hif
    have:(nd q).i=false:=hif
    rw [this] at hp2
    cases hp2
theorem fir_canon {ps:List Plc} (hW:WI ps) (hU:UnqM ps) {a:Int×Int} {ma:HM} (ha:methI ps a.1 a.2=some ma) {k:Nat} {q:Plc} (hq:ps[k]?=some q):firI ps (k:Int) a=firD ps ma.nm ma.ds a (chL (ps.map nd) k):=by
  have hk:=(List.getElem?_eq_some_iff.1 hq).1
  have hkl:k<(ps.map nd).length:=by simpa using hk
  have hdesc:=ch_desc hW.wo k hkl
  have hasc:(chL (ps.map nd) k).reverse.Pairwise (· < ·):=by rw [List.pairwise_reverse];exact hdesc
  have hg:=gth_canon hW hU ha hasc (fun d hd j h1 h2 _=>List.mem_reverse.2 (ch_closed hW hk (List.mem_reverse.1 hd) h1 h2)) (chL (ps.map nd) k).reverse.length
  rw [List.take_length] at hg
  have e0:firI ps (k:Int) a=lstI (chL (ps.map nd) k) (gthL ps a (askL ps ma a (chL (ps.map nd) k).reverse)):=by
    rw [firI,ha,plcI_nat,hq];rfl
  rw [e0,hg]
  obtain ⟨F,hF⟩:∃ F,((chL (ps.map nd) k).reverse.filter fun k=>ovC ps ma.nm ma.ds a k&&((k:Int) != a.1))=F:=⟨_,rfl⟩
  rw [hF]
  have hFasc:F.Pairwise (· < ·):=by rw [← hF];exact hasc.filter _
  have hFm:∀ x,x∈F↔x∈chL (ps.map nd) k∧ovC ps ma.nm ma.ds a x=true∧(x:Int)≠a.1:=fun x=>by
    rw [← hF,List.mem_filter,List.mem_reverse,Bool.and_eq_true,bne_iff_ne]
  cases hl:F.getLast? with
  | some j =>
    obtain ⟨hj1,hj2⟩:=last_max hFasc hl
    obtain ⟨h1,h2,h3⟩:=(hFm j).1 hj1
    have hle:=(ovC_le hW hU ha h2).1
    rw [firD_some (find_desc hdesc h1 h2 fun x hx hp=>?_)]
    · have hlast:((if stI ps a then [] else [a])++F.map (gK ps ma.nm ma.ds)).getLast?=some (gK ps ma.nm ma.ds j):=by
        rw [List.getLast?_append,List.getLast?_map,hl];rfl
      rw [lstI_last hlast,if_pos]
      exact List.contains_iff_mem.2 (List.mem_map.2 ⟨j,h1,rfl⟩)
    · by_cases hxa:(x:Int)=a.1
      · omega
      · exact hj2 x ((hFm x).2 ⟨hx,hp,hxa⟩)
  | none =>
    have hF0:F=[]:=List.getLast?_eq_none_iff.1 hl
    rw [hF0,List.map_nil,List.append_nil]
    cases hs:stI ps a with
    | true =>
      rw [firD_none fun x hx=>?_]
      · rfl
      · cases ho:ovC ps ma.nm ma.ds a x with
        | false=>rfl
        | true=>rw [ov_st ((ovC_iff hW hU ha).1 ho)] at hs;cases hs
    | false =>
      simp only [Bool.false_eq_true,if_false]
      rw [lstI_last (x:=a) rfl]
      by_cases hin:((chL (ps.map nd) k).map (fun k:Nat=>(k:Int))).contains a.1=true
      · rw [if_pos hin]
        obtain ⟨j,hj,ej⟩:=List.mem_map.1 (List.contains_iff_mem.1 hin)
        obtain ⟨j2,hj2,e2,hoj,_⟩:=ov_gK hW hU ha ⟨0,rfl,hs⟩
        have:(j2:Int)=a.1:=by rw [e2];rfl
        obtain rfl:j=j2:=by omega
        rw [firD_some (find_desc hdesc hj hoj fun x hx hp=>?_),← e2]
        by_cases hxa:(x:Int)=a.1
        · omega
        · have:=(hFm x).2 ⟨hx,hp,hxa⟩
          rw [hF0] at this;cases this
      · rw [if_neg hin,firD_none fun x hx=>?_]
        cases ho:ovC ps ma.nm ma.ds a x with
        | false=>rfl
        | true =>
          by_cases hxa:(x:Int)=a.1
          · exact absurd (List.contains_iff_mem.2 (List.mem_map.2 ⟨x,hx,hxa⟩)) hin
          · have:=(hFm x).2 ⟨hx,ho,hxa⟩
            rw [hF0] at this;cases this
def allK (ps:List Plc) (nm ds:ByteArray) (a:Int×Int):List Nat:=(List.range ps.length).filter (ovC ps nm ds a)
theorem all_canon {ps:List Plc} (hW:WI ps) (hU:UnqM ps) {a:Int×Int} {ma:HM} (ha:methI ps a.1 a.2=some ma) {k:Nat} (hk:a.1=(k:Int)):gthL ps a (askL ps ma a (List.range' (k+1) (ps.length - (k+1))))=(allK ps ma.nm ma.ds a).map (gK ps ma.nm ma.ds):=by
  have hkl:k<ps.length:=by
    obtain ⟨j,q,hj,hq,_,_⟩:=meth_plc ha
    have:=(List.getElem?_eq_some_iff.1 hq).1
    omega
  have hasc:(List.range' (k+1) (ps.length - (k+1))).Pairwise (· < ·):=List.pairwise_lt_range'
  have hg:=gth_canon hW hU ha hasc (fun d hd j h1 h2 h3=>by
    have hle:=extI_le hW h1
    have hd2:=List.mem_range'_1.1 hd
    exact List.mem_range'_1.2 (by omega)) (List.range' (k+1) (ps.length - (k+1))).length
  rw [List.take_length] at hg
  rw [hg,allK]
  have hsplit:List.range ps.length=List.range k++([k]++List.range' (k+1) (ps.length - (k+1))):=by
    have e1:ps.length=k+(ps.length - (k+1)+1):=by omega
    have e2:=List.range'_append_1 (s:=0) (m:=k) (n:=ps.length - (k+1)+1)
    rw [Nat.zero_add,← e1] at e2
    rw [List.singleton_append,← List.range'_succ,List.range_eq_range',List.range_eq_range',e2]
  rw [hsplit,List.filter_append,List.filter_append,List.map_append,List.map_append]
  have h0:(List.range k).filter (ovC ps ma.nm ma.ds a)=[]:=by
    rw [List.filter_eq_nil_iff]
    intro x hx ho
    have:=(ovC_le hW hU ha ho).1
    have:=List.mem_range.1 hx
    omega
  have h1:(List.range' (k+1) (ps.length - (k+1))).filter (fun k=>ovC ps ma.nm ma.ds a k&&((k:Int) != a.1))=(List.range' (k+1) (ps.length - (k+1))).filter (ovC ps ma.nm ma.ds a):=by
    refine List.filter_congr fun x hx=>?_
    have:=(List.mem_range'_1.1 hx).1
    have:((x:Int) != a.1)=true:=by rw [bne_iff_ne];omega
    rw [this,Bool.and_true]
  rw [h0,h1,List.map_nil,List.nil_append]
  congr 1
  cases hs:stI ps a with
  | true =>
    have:ovC ps ma.nm ma.ds a k=false:=by
      cases ho:ovC ps ma.nm ma.ds a k with
      | false=>rfl
      | true=>rw [ov_st ((ovC_iff hW hU ha).1 ho)] at hs;cases hs
    simp [this]
  | false =>
    obtain ⟨j,hj,e2,hoj,_⟩:=ov_gK hW hU ha ⟨0,rfl,hs⟩
    have:(j:Int)=a.1:=by rw [e2];rfl
    obtain rfl:k=j:=by omega
    simp [hoj,← e2]
def alvE (ps:List Plc) (a:Int×Int):List (Int×Int)×Int:=match methI ps a.1 a.2 with
  | some m=>((allK ps m.nm m.ds a).map (gK ps m.nm m.ds),0)
  | none=>([],3)
theorem alvE_len {ps:List Plc} (hW:WI ps) (a:Int×Int):(alvE ps a).1.length≤300:=by
  rw [alvE]
  split
  · simp only [List.length_map,allK]
    refine Nat.le_trans (List.length_filter_le _ _) ?_
    rw [List.length_range];exact hW.hi
  · simp
set_option maxHeartbeats 4000000 in
theorem all_no {b:Nat} {ps:List Plc} {W:World} (h:WAt b ps W) (hi:WI ps) (c i:Int) (hm:methI ps c i=none):Calls Tryz.prog 25 #[.pointer (some ⟨b,0,none⟩),.agg #[.int .i64 c,.int .i64 i]] W fun e w'=>e=.returned (.tuple #[.slice none 0 0,.int .i64 3])∧Below W.heap.size W w':=by
  have HR:Hid (∀ w,Below W.heap.size W w→Calls Tryz.prog 74 #[.pointer (some ⟨b,0,none⟩),.agg #[.int .i64 c,.int .i64 i]] w fun e w'=>e=.returned (.tuple #[.agg #[.string ⟨#[]⟩,.string ⟨#[]⟩,.int .i64 0,.int .i64 0,.int .i64 0,.slice none 0 0,.int .i64 0,.int .i64 0,.pointer none],.int .i64 3])∧Below w.heap.size w w'):=fun w hb=>by
    have:=read_c (h.below hb) hi c i
    rw [hm] at this
    exact this
  clear h hi hm
  go_enter Tryz.func25,Tryz.ntmps25
  go_wp2_with (go_at_call 74;refine (HR.out _ (by repeat (first|exact Below.refl _ _|refine Below.setCell ?_ (by simp;try omega) _|refine Below.alloc ?_ (by simp;try omega) _|refine Below.drew ?_))).mono ?_;rintro e w1 ⟨rfl,hb⟩;have B1:Hid (Below W.heap.size W w1):=bstep (by repeat (first|exact Below.refl _ _|refine Below.setCell ?_ (by simp;try omega) _|refine Below.alloc ?_ (by simp;try omega) _|refine Below.drew ?_)) hb;clear hb HR)
  exact bodyPost_ret (results_tmp2 rfl _ _ _) rfl ⟨rfl,(by repeat (first|refine Below.setCell ?_ (by simp;try omega) _|refine Below.alloc ?_ (by have:=B1.out.size;simp;try omega) _|refine Below.drew ?_|exact B1.out))⟩
set_option maxHeartbeats 8000000 in
theorem all_yes {b:Nat} {ps:List Plc} {W:World} (h:WAt b ps W) (hi:WI ps) (k:Nat) (hk:k<ps.length) (i:Int) (m:HM) (hm:methI ps (k:Int) i=some m) (G:List (Int×Int)) (hG:gthL ps ((k:Int),i) (askL ps m ((k:Int),i) (List.range' (k+1) (ps.length - (k+1))))=G):Calls Tryz.prog 25 #[.pointer (some ⟨b,0,none⟩),.agg #[.int .i64 (k:Int),.int .i64 i]] W fun e w'=>(∃ v,e=.returned (.tuple #[v,.int .i64 0])∧w'.ownsRow W.heap.size 24 2 v G.length (flatD G))∧Below W.heap.size W w':=by
  obtain ⟨i0,hi0,hz0,hz1,hz2⟩:=info_parts Tryz.hinfo3
  obtain ⟨j0,hj0,hy0,hy1,hy2⟩:=info_parts Tryz.hinfoD
  have hP3:=hi.hi
  have hGb:G.length≤301:=by
    rw [← hG]
    refine Nat.le_trans (gthL_len _ _ _) ?_
    have:=nskL_len ps m.nm m.ds ((k:Int),i).1 (List.range' (k+1) (ps.length - (k+1)))
    rw [List.length_range'] at this
    rw [askL,List.length_cons]
    omega
  have HR:Hid (∀ w,Below W.heap.size W w→Calls Tryz.prog 74 #[.pointer (some ⟨b,0,none⟩),.agg #[.int .i64 (k:Int),.int .i64 i]] w fun e w'=>(∃ ma mk mo,e=.returned (.tuple #[.agg #[.string m.nm,.string m.ds,.int .i64 m.fl,.int .i64 m.lo,.int .i64 m.st,.slice ma mk mo,.int .i64 (k:Int),.int .i64 i,.pointer (some ⟨b,0,none⟩)],.int .i64 0]))∧Below w.heap.size w w'):=fun w hb=>by
    have:=read_c (h.below hb) hi (k:Int) i
    rw [hm] at this
    exact this
  have HLn:Hid (∀ w,Below W.heap.size W w→Calls Tryz.prog 28 #[.pointer (some ⟨b,0,none⟩)] w fun e w'=>e=.returned (.int .i64 (ps.length:Int))∧w'=w):=fun w hb=>len_c (h.below hb)
  have HG:Hid (∀ w (x:P9) (v:Value),Below W.heap.size W w→OkP ps x→x.id=((k:Int),i)→(x.nm,x.ds,x.c)=(m.nm,m.ds,(k:Int))→Rds w v (ps.length - (k+1)) 1 ((List.range' (k+1) (ps.length - (k+1))).map numV)→Calls Tryz.prog 70 #[x.agg b,v] w fun e w'=>∃ (L:List P9) (g cap:Nat),e=.returned (.slice (some ⟨g,0,none⟩) L.length cap)∧(∀ y∈L,OkP ps y)∧L.map P9.id=G∧w'.ownsRow w.heap.size 93 9 (.slice (some ⟨g,0,none⟩) L.length cap) L.length (flat9 b L)∧Below w.heap.size w w'):=fun w x v hb ho hid hnd hv=>by
    have:=gth_c (h.below hb) hi x ho v (List.range' (k+1) (ps.length - (k+1))) (by rw [List.length_range'];exact hv) (by rw [List.length_range'];omega)
    simp only [Prod.mk.injEq] at hnd
    rw [hid,hnd.1,hnd.2.1,hnd.2.2] at this
    rw [askL] at hG
    rw [hG] at this
    exact this
  have HM:Hid (methI ps (k:Int) i=some m):=hm
  generalize ps.length=P at *
  clear h hi hm hG
  simp only [P9.agg] at HG
  go_enter Tryz.func25,Tryz.ntmps25
  go_wp2_with (go_at_call 74;refine (HR.out _ (by repeat (first|exact Below.refl _ _|refine Below.setCell ?_ (by simp;try omega) _|refine Below.alloc ?_ (by simp;try omega) _|refine Below.drew ?_))).mono ?_;rintro e w1 ⟨⟨ma,mk,mo,rfl⟩,hb⟩;have abd:=kp2 (n:=W.heap.size) hb (by simp) (halloc1 _ _);obtain ⟨abB,ab0,ab1,abf,abL,abN⟩:=abd;have B1:Hid (Below W.heap.size W w1):=bstep (by repeat (first|exact Below.refl _ _|refine Below.setCell ?_ (by simp;try omega) _|refine Below.alloc ?_ (by simp;try omega) _|refine Below.drew ?_)) hb;clear hb HR)
  obtain ⟨U,hU⟩:∃ U,U=w1.alloc (.cells #[.string m.nm,.string m.ds,.int .i64 m.fl,.int .i64 m.lo,.int .i64 m.st,.slice ma mk mo,.int .i64 (k:Int),.int .i64 i,.pointer (some ⟨b,0,none⟩)] 93):=⟨_,rfl⟩
  have BU:Hid (Below W.heap.size W U):=by rw [hU];exact B1.out.alloc B1.out.size _
  have HX:Hid (U.heap[w1.heap.size]?=some (.cells #[.string m.nm,.string m.ds,.int .i64 m.fl,.int .i64 m.lo,.int .i64 m.st,.slice ma mk mo,.int .i64 (k:Int),.int .i64 i,.pointer (some ⟨b,0,none⟩)] 93 (0,0))):=by rw [hU];exact halloc1 _ _
  have hxl:w1.heap.size<U.heap.size:=by rw [hU];simp
  rw [← hU]
  clear hU abB ab0 ab1 abf abL abN
  go_loopw [8,9] (fun sv kv wr=>∃ n:Nat,kv=.int .i64 ((k+1+n:Nat):Int)∧k+1+n≤P∧Hid (wr.ownsRow U.heap.size 3 1 sv n ((List.range' (k+1) n).map numV))∧Hid (Below U.heap.size U wr)) (fun _ kv _=>P - (intOf kv).toNat)
  case atStart=>exact ⟨0,by go_num,by omega,World.ownsRow_nil _ _ _ _,Below.refl _ _⟩
  case round =>
    obtain ⟨n,rfl,hn,hO,hB⟩:=hrel
    have BWr:Hid (Below W.heap.size W wr):=BU.out.trans (hB.out.mono BU.out.size)
    obtain ⟨va,vn,rfl⟩:=ownv hO.out
    have HL1:Hid (Calls Tryz.prog 28 #[.pointer (some ⟨b,0,none⟩)] wr fun e w'=>e=.returned (.int .i64 (P:Int))∧w'=wr):=HLn.out wr BWr.out
    by_cases hlt:k+1+n<P
    · have hltI:((k+1+n:Nat):Int)<(P:Int):=by omega
      have hst:(List.range' (k+1) (n+1)).map numV=(List.range' (k+1) n).map numV++[numV (k+1+n)]:=by rw [List.range'_1_concat,List.map_append];rfl
      have HST:Hid _:=hst
      obtain ⟨c,hc⟩:∃ c,c=k+1+n:=⟨_,rfl⟩
      rw [← hc] at hltI HST ⊢
      have HC:Hid (c=k+1+n):=hc
      have hc3:c≤300:=by omega
      have hn3:n≤300:=by omega
      generalize (List.range' (k+1) n).map numV=X at *
      clear hst hc
      go_wp2_with (first
        | (go_at_call 28;refine HL1.out.mono ?_;rintro e w9 ⟨rfl,hw9⟩;rw [hw9];clear hw9 w9 HL1)
        | (at_builtin;refine wpList_append_own _ rfl _ _ 99 rfl U.heap.size 3 i0 (.int .i64 0) 1 8 Tryz.underlying99 hi0 hz0 hz1 hz2 rfl (by decide) (.slice va n vn) n X rfl (hO.out.alloc _) ⟨wr.heap.size,0,none⟩ 1 1 [.int .i64 (c:Int)] rfl rfl ?c1 ?c2 ?c3 ?c4 ?c5 ?_))
      case c1=>intro jj u hj;rw [addr_add];cases jj with
        | zero=>simp at hj;subst hj;simp [go_sem]
        | succ jj=>simp at hj
      case c2=>intro u hu;simp at hu;subst hu;rfl
      case c3=>unfold maxLen;omega
      case c4=>omega
      case c5=>have:=hB.out.size;simp;omega
      intro v' w2 hown hgrow _
      obtain ⟨va2,vn2,rfl⟩:=ownv hown
      have B2:Hid (Below U.heap.size U w2):=by
        have hb1:Below U.heap.size U (wr.alloc (.cells #[.int .i64 (c:Int)] 3)):=hB.out.alloc hB.out.size _
        refine hb1.grown hgrow hb1.size (fun x hx=>?_)
        have:=(hO.out.lt x hx).1
        omega
      have O2:Hid (w2.ownsRow U.heap.size 3 1 (.slice va2 (n+1) vn2) (n+1) ((List.range' (k+1) (n+1)).map numV)):=by
        rw [Hid,HST.out];exact hown
      clear hown hgrow
      go_wp2
      go_roundw
      case rel=>exact ⟨n+1,by rw [HC.out];go_num,by have:=HC.out;omega,O2,B2⟩
      case measure=>have:=HC.out;simp [intOf];omega
    · have en:n=P - (k+1):=by omega
      have hltI:¬ ((k+1+n:Nat):Int)<(P:Int):=by omega
      have D1:Hid (Rds wr (.slice va n vn) (P - (k+1)) 1 ((List.range' (k+1) (P - (k+1))).map numV)):=by rw [Hid,← en];exact own_rds hO.out
      obtain ⟨p0,p1,p2,p3,p4,p5,p6,p7,p8,pL⟩:=row9 ((hB.out.block w1.heap.size hxl).trans HX.out)
      have EN:Hid (n=P - (k+1)):=en
      clear en
      go_wp2_with (first
        | (go_at_call 28;refine HL1.out.mono ?_;rintro e w9 ⟨rfl,hw9⟩;rw [hw9];clear hw9 w9 HL1)
        | (go_at_call 70;refine (HG.out wr ⟨m.nm,m.ds,m.fl,m.lo,m.st,ma,mk,mo,(k:Int),i⟩ (.slice va n vn) BWr.out ⟨m,HM.out,rfl,rfl,rfl⟩ rfl rfl D1.out).mono ?_;rintro e w4 ⟨L,g,cap,rfl,hok,hid,ho,hb⟩;have ID4:Hid (L.map P9.id=G):=hid;have O4:Hid (w4.ownsRow wr.heap.size 93 9 (.slice (some ⟨g,0,none⟩) L.length cap) L.length (flat9 b L)):=ho;have B4:Hid (Below W.heap.size W w4):=bstep BWr.out hb;clear hb ho hok hid HG))
      clear p0 p1 p2 p3 p4 p5 p6 p7 p8 pL
      obtain ⟨T,hT⟩:∃ T,L.length=T:=⟨_,rfl⟩
      have HT:Hid (L.length=T):=hT
      have HGT:Hid (G.length=T):=by rw [Hid,← ID4.out,List.length_map];exact hT
      have hT3:T≤301:=by rw [← HGT.out];exact hGb
      rw [hT] at O4 ⊢
      clear hT
      go_loopw [10,39] (fun sv kv wr=>∃ j:Nat,kv=.int .i64 j∧j≤T∧Hid (wr.ownsRow w4.heap.size 24 2 sv j (flatD (G.take j)))∧Hid (Below w4.heap.size w4 wr)) (fun _ kv _=>T - (intOf kv).toNat)
      case atStart=>exact ⟨0,rfl,Nat.zero_le _,World.ownsRow_nil _ _ _ _,Below.refl _ _⟩
      case round =>
        obtain ⟨j,rfl,hj,hOj,hBj⟩:=hrel
        obtain ⟨xa,xc,rfl⟩:=ownv hOj.out
        by_cases hlj:j<T
        · have hjI:(j:Int)<(T:Int):=by omega
          obtain ⟨y,hy⟩:∃ y,L[j]?=some y:=⟨_,List.getElem?_eq_getElem (by rw [HT.out];exact hlj)⟩
          have hgy:G[j]?=some y.id:=by rw [← ID4.out,List.getElem?_map,hy];rfl
          have HTK:Hid (flatD (G.take (j+1))=flatD (G.take j)++[.int .i64 y.c,.int .i64 y.i]):=by
            rw [Hid,List.take_add_one,hgy,Option.toList_some,flatD_app];rfl
          obtain ⟨e0,e1,e2,e3,e4,e5,e6,e7,e8,gL⟩:=row9_cells (rowBelow O4.out hBj.out) hy
          obtain ⟨yn,yd,yf,yl,ys,ya,yk,yo,yc,yi⟩:=y
          simp only at e0 e1 e2 e3 e4 e5 e6 e7 e8 HTK
          generalize flatD (G.take j)=X at hOj HTK
          clear hy hgy
          go_wp2_with (at_builtin;refine wpList_append_own _ rfl _ _ 39 rfl w4.heap.size 24 j0 (.agg #[.int .i64 0,.int .i64 0]) 2 16 Tryz.underlying39 hj0 hy0 hy1 hy2 rfl (by decide) (.slice xa j xc) j X rfl ((hOj.out.alloc _).alloc _) ⟨wr.heap.size+1,0,none⟩ 1 1 [.int .i64 yc,.int .i64 yi] rfl rfl ?c1 ?c2 ?c3 ?c4 ?c5 ?_)
          case c1=>intro jj u hj;rw [addr_add];match jj,hj with
            | 0,hj=>simp at hj;subst hj;simp [go_sem]
            | 1,hj=>simp at hj;subst hj;simp [go_sem]
            | (jj+2),hj=>simp at hj
          case c2=>intro u hu;simp at hu;rcases hu with rfl|rfl <;> rfl
          case c3=>unfold maxLen;omega
          case c4=>omega
          case c5=>have:=hBj.out.size;simp;omega
          intro v' w6 hown hgrow _
          obtain ⟨va2,vn2,rfl⟩:=ownv hown
          have B6:Hid (Below w4.heap.size w4 w6):=by
            refine Below.grown (w:=(wr.alloc (.cells #[.string yn,.string yd,.int .i64 yf,.int .i64 yl,.int .i64 ys,.slice ya yk yo,.int .i64 yc,.int .i64 yi,.pointer (some ⟨b,0,none⟩)] 93)).alloc (.cells #[.int .i64 yc,.int .i64 yi] 24)) ?_ hgrow ?_ (fun x hx=>?_)
            · exact (hBj.out.alloc hBj.out.size _).alloc (by have:=hBj.out.size;simp;omega) _
            · have:=hBj.out.size;simp;omega
            · have:=(hOj.out.lt x hx).1
              omega
          have O6:Hid (w6.ownsRow w4.heap.size 24 2 (.slice va2 (j+1) vn2) (j+1) (flatD (G.take (j+1)))):=by
            rw [Hid,HTK.out];exact hown
          clear hown hgrow
          go_wp2
          go_roundw
          case rel=>exact ⟨j+1,by go_num,by omega,O6,B6⟩
          case measure=>simp [intOf];omega
        · have e:j=T:=by omega
          subst e
          have O9:Hid (wr.ownsRow W.heap.size 24 2 (.slice xa j xc) G.length (flatD G)):=by
            have:=hOj.out
            rw [List.take_of_length_le (by rw [HGT.out];exact Nat.le_refl _)] at this
            rw [Hid,HGT.out]
            exact Go.Joins.ownsRow_le this B4.out.size
          go_wp2
          exact bodyPost_ret (results_tmp2 rfl _ _ _) rfl ⟨⟨_,rfl,O9.out⟩,B4.out.trans (hBj.out.mono B4.out.size)⟩
theorem oall_c {b:Nat} {ps:List Plc} {W:World} (h:WAt b ps W) (hi:WI ps) (hU:UnqM ps) (a1 a2:Int):Calls Tryz.prog 25 #[.pointer (some ⟨b,0,none⟩),.agg #[.int .i64 a1,.int .i64 a2]] W fun e w'=>(∃ v,e=.returned (.tuple #[v,.int .i64 (alvE ps (a1,a2)).2])∧w'.ownsRow W.heap.size 24 2 v (alvE ps (a1,a2)).1.length (flatD (alvE ps (a1,a2)).1))∧Below W.heap.size W w':=by
  cases ha:methI ps a1 a2 with
  | none =>
    have e:alvE ps (a1,a2)=([],3):=by simp [alvE,ha]
    rw [e]
    exact (all_no h hi a1 a2 ha).mono fun e w' zz=>⟨⟨_,zz.1,World.ownsRow_nil _ _ _ _⟩,zz.2⟩
  | some ma =>
    have e:alvE ps (a1,a2)=((allK ps ma.nm ma.ds (a1,a2)).map (gK ps ma.nm ma.ds),0):=by simp [alvE,ha]
    rw [e]
    obtain ⟨k,q,rfl,hq,_,_⟩:=meth_plc ha
    exact all_yes h hi k (List.getElem?_eq_some_iff.1 hq).1 a2 ma ha _ (all_canon hi hU (a:=((k:Int),a2)) ha rfl)
theorem rowSet {w:World} {B e s:Nat} {v:Value} {n:Nat} {xs:List Value} (h:w.ownsRow B e s v n xs) {k j:Nat} (hk:k<B) (u:Value):(w.setCell ⟨k,j,none⟩ u).ownsRow B e s v n xs:=by
  refine ⟨h.1,?_⟩
  rcases h.2 with h1|⟨g,cap,cur,h1,h2,h3,h4⟩
  · exact .inl h1
  · exact .inr ⟨g,cap,cur,h1,h2,(heap_setCell_other _ _ _ _ (by simp;omega)).trans h3,h4⟩
def vrtB (nm:ByteArray) (fl:Int):Bool:=(bits .and .i64 fl 10 == 0)&&!(nm.toList == [60,105,110,105,116,62])
def opnB (fl:Int):Bool:=bits .and .i64 fl 5 != 0
theorem isVrt_c (nm ds:ByteArray) (fl lo st:Int) (a:Option Addr) (n s:Nat) (W:World):Calls Tryz.prog 123 #[.agg #[.string nm,.string ds,.int .i64 fl,.int .i64 lo,.int .i64 st,.slice a n s]] W fun e w'=>e=.returned (.bool (vrtB nm fl))∧Below W.heap.size W w':=by
  unfold vrtB
  cases h:(bits .and .i64 fl 10 == 0)
  all_goals
    go_enter Tryz.func123,Tryz.ntmps123
    go_wp2
  all_goals go_ret
  all_goals exact ⟨retB (by simp),(by repeat (first|exact Below.refl _ _|refine Below.setCell ?_ (by simp;try omega) _|refine Below.alloc ?_ (by simp;try omega) _|refine Below.drew ?_))⟩
theorem isOpn_c (nm ds:ByteArray) (fl lo st:Int) (a:Option Addr) (n s:Nat) (W:World):Calls Tryz.prog 253 #[.agg #[.string nm,.string ds,.int .i64 fl,.int .i64 lo,.int .i64 st,.slice a n s]] W fun e w'=>e=.returned (.bool (opnB fl))∧Below W.heap.size W w':=by
  unfold opnB
  go_enter Tryz.func253,Tryz.ntmps253
  go_wp2
  all_goals go_ret
  all_goals exact ⟨retB (by simp),(by repeat (first|exact Below.refl _ _|refine Below.setCell ?_ (by simp;try omega) _|refine Below.alloc ?_ (by simp;try omega) _|refine Below.drew ?_))⟩
set_option maxHeartbeats 2000000 in
theorem newSlot_w (W:World) (b:Nat) (a1 a2 e3:Int) (G:List (Int×Int)) (HA:Hid (∀ w,Below W.heap.size W w→Calls Tryz.prog 25 #[.pointer (some ⟨b,0,none⟩),.agg #[.int .i64 a1,.int .i64 a2]] w fun e w'=>(∃ v,e=.returned (.tuple #[v,.int .i64 e3])∧w'.ownsRow w.heap.size 24 2 v G.length (flatD G))∧Below w.heap.size w w')):Calls Tryz.prog 255 #[.pointer (some ⟨b,0,none⟩),.agg #[.int .i64 a1,.int .i64 a2]] W fun e w'=>(∃ oa oc,e=.returned (.agg #[.int .i64 a1,.int .i64 a2,.int .i64 a1,.int .i64 a2,.slice oa G.length oc])∧w'.ownsRow W.heap.size 24 2 (.slice oa G.length oc) G.length (flatD G))∧Below W.heap.size W w':=by
  go_enter Tryz.func255,Tryz.ntmps255
  go_wp2_with (go_at_call 25;refine (HA.out _ (by repeat (first|exact Below.refl _ _|refine Below.setCell ?_ (by simp;try omega) _|refine Below.alloc ?_ (by simp;try omega) _|refine Below.drew ?_))).mono ?_;rintro e w1 ⟨⟨v,rfl,ho⟩,hb⟩;obtain ⟨va,vc,rfl⟩:=ownv ho;have O1:Hid (w1.ownsRow W.heap.size 24 2 (.slice va G.length vc) G.length (flatD G)):=Go.Joins.ownsRow_le ho (by simp;try omega);have HLO:Hid (w1.ownsRow (W.heap.size+2) 24 2 (.slice va G.length vc) G.length (flatD G)):=Go.Joins.ownsRow_le ho (by simp);have abd:=kp2 (n:=W.heap.size) hb (by simp;try omega) (hkeep (halloc1 _ _));obtain ⟨abB,ab0,ab1,abf,abL,abN⟩:=abd;have zbd:=kp5 (n:=W.heap.size+1) hb (by simp;try omega) (halloc2 _ _ (by simp));obtain ⟨zbB,zb0,zb1,zb2,zb3,zb4,zbf,zbL,zbN⟩:=zbd;have B1:Hid (Below W.heap.size W w1):=bstep (by repeat (first|exact Below.refl _ _|refine Below.setCell ?_ (by simp;try omega) _|refine Below.alloc ?_ (by simp;try omega) _|refine Below.drew ?_)) hb;clear hb ho HA)
  refine bodyPost_ret (v:=.agg #[.int .i64 a1,.int .i64 a2,.int .i64 a1,.int .i64 a2,.slice va G.length vc]) (by simp [results,Tryz.results255,go_sem, *]) rfl ⟨⟨va,vc,rfl,?_⟩,(by repeat (first|refine Below.setCell ?_ (by simp;try omega) _|refine Below.alloc ?_ (by have:=B1.out.size;simp;try omega) _|refine Below.drew ?_|exact B1.out))⟩
  exact Go.Joins.ownsRow_le (rowSet (rowSet (rowSet (rowSet (rowSet HLO.out (by omega) _) (by omega) _) (by omega) _) (by omega) _) (by omega) _) (by omega)
def idxS (p:S5→Bool):List S5→Nat→Int
  | [],_=>-1
  | m::r,k=>if p m then (k:Int) else idxS p r (k+1)
theorem idxS_at {p:S5→Bool} {l:List S5} (k:Nat) (x:S5) (h:l[k]?=some x):idxS p (l.drop k) k=if p x then (k:Int) else idxS p (l.drop (k+1)) (k+1):=by
  obtain ⟨h1,h2⟩:=List.getElem?_eq_some_iff.1 h
  rw [List.drop_eq_getElem_cons h1,h2,idxS]
theorem idxS_any (p:S5→Bool):∀ (l:List S5) (k:Nat),(idxS p l k=-1∧l.any p=false)∨∃ j:Nat,idxS p l k=(j:Int)∧l.any p=true
  | [],_=>.inl ⟨rfl,rfl⟩
  | m::r,k=>by
    rw [idxS]
    cases e:p m with
    | true=>exact .inr ⟨k,by simp,by simp [e]⟩
    | false =>
      rcases idxS_any p r (k+1) with ⟨h,h2⟩|⟨j,h,h2⟩
      · exact .inl ⟨by simpa using h,by simp [e,h2]⟩
      · exact .inr ⟨j,by simpa using h,by simp [h2]⟩
set_option maxHeartbeats 4000000 in
theorem idx5_any (g:Nat) (eg:∀ args w,(callFunc g args).run Tryz.prog w=.ok (.enter g args) w) (cb:Array Value) (p:S5→Bool) (N:Nat) (l:List S5) (v:Value) (W:World) (h:W.ownsRow N 213 5 v l.length (flat5 l)) (hn:l.length≤1000000000) (hp:∀ m∈l,∀ w,Below W.heap.size W w→Calls Tryz.prog g (#[m.agg]++cb) w fun e w'=>e=.returned (.bool (p m))∧Below w.heap.size w w') :
    Calls Tryz.prog 307 #[v,.func (.func g) #[] cb] W fun e w'=>e=.returned (.int .i64 (idxS p l 0))∧Below W.heap.size W w':=by
  obtain ⟨ao,cap,rfl⟩:=ownv h
  obtain ⟨K,hK⟩:∃ K,l.length=K:=⟨_,rfl⟩
  have HA:Hid (W.ownsRow N 213 5 (.slice ao l.length cap) l.length (flat5 l)):=h
  have HK:Hid (l.length=K):=hK
  have HP:Hid (∀ m∈l,∀ w,Below W.heap.size W w→Calls Tryz.prog g (#[m.agg]++cb) w fun e w'=>e=.returned (.bool (p m))∧Below w.heap.size w w'):=hp
  rw [hK] at hn ⊢
  clear hK h hp
  go_enter Tryz.func307,Tryz.ntmps307
  go_wp2
  go_loopw [8] (fun iv wr=>∃ i:Nat,iv=.int .i64 i∧i≤K∧Hid (Below W.heap.size W wr)∧Hid (idxS p (l.drop i) i=idxS p l 0)) (fun iv _=>K - (intOf iv).toNat)
  case atStart=>exact ⟨0,rfl,Nat.zero_le _,Below.refl _ _,rfl⟩
  case round =>
    obtain ⟨i,rfl,hi,hb,hs⟩:=hrel
    by_cases hlt:i<K
    · have hlq:i<l.length:=by rw [HK.out];exact hlt
      obtain ⟨x,hx⟩:∃ x,l[i]?=some x:=⟨_,List.getElem?_eq_getElem hlq⟩
      obtain ⟨gm,cm,hform⟩:=Go.Joins.ownsRow_form HA.out (by omega)
      have hrow:=HA.out
      rw [hform] at hrow
      obtain ⟨e0,e1,e2,e3,e4,hgl⟩:=row5_cells hrow hx
      replace e0:=(hb.out.cell (p:=⟨gm,i * 5,none⟩) hgl).trans e0
      replace e1:=(hb.out.cell (p:=⟨gm,i * 5+1,none⟩) hgl).trans e1
      replace e2:=(hb.out.cell (p:=⟨gm,i * 5+2,none⟩) hgl).trans e2
      replace e3:=(hb.out.cell (p:=⟨gm,i * 5+3,none⟩) hgl).trans e3
      replace e4:=(hb.out.cell (p:=⟨gm,i * 5+4,none⟩) hgl).trans e4
      injection hform with hao _ hcap
      subst hao hcap
      have hst:=idxS_at (p:=p) i x hx
      rw [hs.out] at hst
      have HC:Hid (Calls Tryz.prog g (#[x.agg]++cb) wr fun e w'=>e=.returned (.bool (p x))∧Below wr.heap.size wr w'):=HP.out x (List.mem_of_getElem? hx) wr hb.out
      generalize p x=q at *
      obtain ⟨⟨r1,r2⟩,⟨m1,m2⟩,oa,on,oc⟩:=x
      simp only [S5.agg] at e0 e1 e2 e3 e4 HC
      clear hs HA hx hrow hlq HP
      cases q with
      | true =>
        have HZ:Hid (idxS p l 0=(i:Int)):=by rw [Hid,hst];rfl
        clear hst
        go_wp2_with (go_at_fn g;refine (HC.out).mono ?_;rintro e w1 ⟨rfl,hb1⟩)
        go_ret
        exact ⟨ret_int HZ.out.symm,Below.step hb.out hb1⟩
      | false =>
        have HZ:Hid (idxS p (l.drop (i+1)) (i+1)=idxS p l 0):=by rw [Hid,hst];rfl
        clear hst
        go_wp2_with (go_at_fn g;refine (HC.out).mono ?_;rintro e w1 ⟨rfl,hb1⟩;have hb2:Hid (Below W.heap.size W w1):=Below.step hb.out hb1;clear hb1)
        go_roundw
        case rel=>exact ⟨i+1,by go_num,by omega,hb2,HZ⟩
        case measure=>simp [intOf];omega
    · have e:i=K:=by omega
      subst e
      have HZ:Hid (idxS p l 0=-1):=by rw [Hid,← hs.out,List.drop_of_length_le (by rw [HK.out];exact Nat.le_refl _)];rfl
      clear hs HA HP
      go_wp2
      go_ret
      exact ⟨ret_int HZ.out.symm,hb.out⟩
theorem con5_any (g:Nat) (eg:∀ args w,(callFunc g args).run Tryz.prog w=.ok (.enter g args) w) (cb:Array Value) (p:S5→Bool) (N:Nat) (l:List S5) (v:Value) (W:World) (h:W.ownsRow N 213 5 v l.length (flat5 l)) (hn:l.length≤1000000000) (hp:∀ m∈l,∀ w,Below W.heap.size W w→Calls Tryz.prog g (#[m.agg]++cb) w fun e w'=>e=.returned (.bool (p m))∧Below w.heap.size w w') :
    Calls Tryz.prog 289 #[v,.func (.func g) #[] cb] W fun e w'=>e=.returned (.bool (l.any p))∧Below W.heap.size W w':=by
  have HI:Hid (Calls Tryz.prog 307 #[v,.func (.func g) #[] cb] W fun e w'=>e=.returned (.int .i64 (idxS p l 0))∧Below W.heap.size W w'):=idx5_any g eg cb p N l v W h hn hp
  rcases idxS_any p l 0 with ⟨e,e2⟩|⟨j,e,e2⟩
  · rw [e] at HI
    rw [e2]
    obtain ⟨ao,cap,rfl⟩:=ownv h
    clear h hp e e2
    go_enter Tryz.func289,Tryz.ntmps289
    go_wp2_with (go_at_call 307;refine HI.out.mono ?_;rintro e w1 ⟨rfl,hb⟩;have B1:Hid (Below W.heap.size W w1):=hb;clear hb HI)
    exact bodyPost_ret (results_tmp rfl _ _ _) rfl ⟨rfl,B1.out⟩
  · rw [e] at HI
    rw [e2]
    obtain ⟨ao,cap,rfl⟩:=ownv h
    clear h hp e e2
    go_enter Tryz.func289,Tryz.ntmps289
    go_wp2_with (go_at_call 307;refine HI.out.mono ?_;rintro e w1 ⟨rfl,hb⟩;have B1:Hid (Below W.heap.size W w1):=hb;clear hb HI)
    exact bodyPost_ret (results_tmp rfl _ _ _) rfl ⟨rfl,B1.out⟩
theorem callSI (vs:Array Value) (w:World):(callFunc 290 vs).run Tryz.prog w=.ok (.enter 290 vs) w:=by simp [go_sem]
theorem isHeld_c (W:World) (B:Nat) (hB:B<W.heap.size) (o1 o2:Int) (h0:W.cell? ⟨B,0,none⟩=some (.int .i64 o1)) (h1:W.cell? ⟨B,1,none⟩=some (.int .i64 o2)) (x:S5):Calls Tryz.prog 290 #[x.agg,.pointer (some ⟨B,0,none⟩)] W fun e w'=>e=.returned (.bool ((x.m.1 == o1)&&(x.m.2 == o2)))∧Below W.heap.size W w':=by
  obtain ⟨⟨r1,r2⟩,⟨m1,m2⟩,oa,on,oc⟩:=x
  simp only [S5.agg]
  have hN:¬ B=W.heap.size:=by omega
  go_enter Tryz.func290,Tryz.ntmps290
  go_wp2
  all_goals go_ret
  all_goals exact ⟨retB (by simp [*]),(by repeat (first|exact Below.refl _ _|refine Below.setCell ?_ (by simp;try omega) _|refine Below.alloc ?_ (by simp;try omega) _|refine Below.drew ?_))⟩
theorem stIn_c (N:Nat) (l:List S5) (v:Value) (o1 o2:Int) (W:World) (h:W.ownsRow N 213 5 v l.length (flat5 l)) (hn:l.length≤1000000000):Calls Tryz.prog 254 #[v,.agg #[.int .i64 o1,.int .i64 o2]] W fun e w'=>e=.returned (.bool (l.any fun x=>(x.m.1 == o1)&&(x.m.2 == o2)))∧Below W.heap.size W w':=by
  have HC:Hid (Calls Tryz.prog 289 #[v,.func (.func 290) #[] #[.pointer (some ⟨W.heap.size,0,none⟩)]] (W.alloc (.cells #[.int .i64 o1,.int .i64 o2] 24)) fun e w'=>e=.returned (.bool (l.any fun x=>(x.m.1 == o1)&&(x.m.2 == o2)))∧Below (W.alloc (.cells #[.int .i64 o1,.int .i64 o2] 24)).heap.size (W.alloc (.cells #[.int .i64 o1,.int .i64 o2] 24)) w'):=by
    refine con5_any 290 callSI _ _ N l v _ (h.alloc _) hn (fun m _ w hb=>?_)
    obtain ⟨_,c0,c1,_,cL,_⟩:=kp2 (n:=W.heap.size) hb (by simp) (halloc1 _ _)
    exact isHeld_c w W.heap.size cL o1 o2 c0 c1 m
  obtain ⟨va,vc,rfl⟩:=ownv h
  generalize (l.any fun x=>(x.m.1 == o1)&&(x.m.2 == o2))=R at *
  clear h
  go_enter Tryz.func254,Tryz.ntmps254
  go_wp2_with (go_at_call 289;refine HC.out.mono ?_;rintro e w1 ⟨rfl,hb⟩;have B1:Hid (Below W.heap.size W w1):=((Below.refl _ W).alloc (Nat.le_refl _) _).trans (hb.mono (by simp));clear hb HC)
  exact bodyPost_ret (results_tmp rfl _ _ _) rfl ⟨rfl,B1.out⟩
end Go.Proofs.YtjlfnelihbdhjaaGreat
