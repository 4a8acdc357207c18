import Derived.Test.YtjlfnelihbdhjaaGreatVtG
import Derived.Test.YtjlfnelihbdhjaaGreatLcP
import Derived.Test.YtjlfnelihbdhjaaGreatLpC
import Derived.Test.YtjlfnelihbdhjaaGreatOvR
import Derived.Test.YtjlfnelihbdhjaaGreatGrA
import Derived.Test.YtjlfnelihbdhjaaGreatHrQ
import Derived.Test.YtjlfnelihbdhjaaGreatVtD
import Derived.Test.YtjlfnelihbdhjaaGreatLwA
import Derived.IntWalk
set_option maxRecDepth 100000
namespace Go.Proofs.YtjlfnelihbdhjaaGreat
open Go.RowKit Go.Maps
theorem chk_n (W:World) (b:Nat) (x:Int) (N:Nat) (f:Bool) (HL:Hid (∀ w,Below W.heap.size W w→Calls Tryz.prog 28 #[.pointer (some ⟨b,0,none⟩)] w fun e w'=>e=.returned (.int .i64 (N:Int))∧w'=w)) (HF:Hid (∀ w,Below W.heap.size W w→Calls Tryz.prog 56 #[.pointer (some ⟨b,0,none⟩),.int .i64 x] w fun e w'=>e=.returned (.bool f)∧Below w.heap.size w w')) (E:Int) (hE:E=if x<0∨(N:Int)≤x then 3 else if f then 23 else 0):Calls Tryz.prog 119 #[.pointer (some ⟨b,0,none⟩),.int .i64 x] W fun e w'=>e=.returned (.int .i64 E)∧Below W.heap.size W w':=by
  by_cases h0:x<0
  · have e1:E=3:=by rw [hE,if_pos (.inl h0)]
    subst e1
    clear hE
    go_enter Tryz.func119,Tryz.ntmps119
    go_wp2
    go_ret
    exact ⟨rfl,Below.refl _ _⟩
  · by_cases h1:(N:Int)≤x
    · have e1:E=3:=by rw [hE,if_pos (.inr h1)]
      subst e1
      clear hE
      go_enter Tryz.func119,Tryz.ntmps119
      go_wp2_with (go_at_call 28;refine (HL.out _ (Below.refl _ _)).mono ?_;rintro e w9 ⟨rfl,hw9⟩;rw [hw9];clear hw9 w9 HL)
      go_ret
      exact ⟨rfl,Below.refl _ _⟩
    · cases f
      · have e1:E=0:=by rw [hE,if_neg (by omega)];rfl
        subst e1
        clear hE
        go_enter Tryz.func119,Tryz.ntmps119
        go_wp2_with (first
          | (go_at_call 28;refine (HL.out _ (Below.refl _ _)).mono ?_;rintro e w9 ⟨rfl,hw9⟩;rw [hw9];clear hw9 w9 HL)
          | (go_at_call 56;refine (HF.out _ (Below.refl _ _)).mono ?_;rintro e w2 ⟨rfl,hb⟩;have B2:Hid (Below W.heap.size W w2):=hb;clear hb HF))
        go_ret
        exact ⟨rfl,B2.out⟩
      · have e1:E=23:=by rw [hE,if_neg (by omega)];rfl
        subst e1
        clear hE
        go_enter Tryz.func119,Tryz.ntmps119
        go_wp2_with (first
          | (go_at_call 28;refine (HL.out _ (Below.refl _ _)).mono ?_;rintro e w9 ⟨rfl,hw9⟩;rw [hw9];clear hw9 w9 HL)
          | (go_at_call 56;refine (HF.out _ (Below.refl _ _)).mono ?_;rintro e w2 ⟨rfl,hb⟩;have B2:Hid (Below W.heap.size W w2):=hb;clear hb HF))
        go_ret
        exact ⟨rfl,B2.out⟩
def vckE (ps:List Plc) (x:Int):Int:=match plcI ps x with
  | none=>3
  | some _=>if ifcI ps x then 23 else 0
theorem chk_c {b:Nat} {ps:List Plc} {W:World} (h:WAt b ps W) (x:Int):Calls Tryz.prog 119 #[.pointer (some ⟨b,0,none⟩),.int .i64 x] W fun e w'=>e=.returned (.int .i64 (vckE ps x))∧Below W.heap.size W w':=by
  refine chk_n W b x ps.length (ifcI ps x) (fun w hb=>len_c (h.below hb)) (fun w hb=>isIface_c (h.below hb) x) _ ?_
  rw [vckE]
  rcases plcI_cases ps x with ⟨e,hn⟩|⟨k,q,rfl,hq,e⟩
  · rw [e,if_pos (show x<0∨(ps.length:Int)≤x by omega)]
  · have:=(List.getElem?_eq_some_iff.1 hq).1
    rw [e,if_neg (show ¬ ((k:Int)<0∨(ps.length:Int)≤(k:Int)) by omega)]
theorem bld_no (W:World) (b:Nat) (x E:Int) (hE:¬ E=0) (HC:Hid (∀ w,Below W.heap.size W w→Calls Tryz.prog 119 #[.pointer (some ⟨b,0,none⟩),.int .i64 x] w fun e w'=>e=.returned (.int .i64 E)∧Below w.heap.size w w')):Calls Tryz.prog 46 #[.pointer (some ⟨b,0,none⟩),.int .i64 x] W fun e w'=>e=.returned (.tuple #[.slice none 0 0,.int .i64 E])∧Below W.heap.size W w':=by
  go_enter Tryz.func46,Tryz.ntmps46
  go_wp2_with (go_at_call 119;refine (HC.out _ (Below.refl _ _)).mono ?_;rintro e w1 ⟨rfl,hb⟩;have B1:Hid (Below W.heap.size W w1):=hb;clear hb HC)
  go_ret2
  exact ⟨rfl,B1.out⟩
theorem bld_yes (W:World) (b:Nat) (x:Int) (T:List Sl) (HC:Hid (∀ w,Below W.heap.size W w→Calls Tryz.prog 119 #[.pointer (some ⟨b,0,none⟩),.int .i64 x] w fun e w'=>e=.returned (.int .i64 0)∧Below w.heap.size w w')) (HT:Hid (∀ w,Below W.heap.size W w→Calls Tryz.prog 120 #[.pointer (some ⟨b,0,none⟩),.int .i64 x] w fun e w'=>(∃ v,e=.returned v∧w'.ownsRow w.heap.size 86 4 v T.length (flat4 T))∧Below w.heap.size w w')):Calls Tryz.prog 46 #[.pointer (some ⟨b,0,none⟩),.int .i64 x] W fun e w'=>(∃ v,e=.returned (.tuple #[v,.int .i64 0])∧w'.ownsRow W.heap.size 86 4 v T.length (flat4 T))∧Below W.heap.size W w':=by
  go_enter Tryz.func46,Tryz.ntmps46
  go_wp2_with (first
    | (go_at_call 119;refine (HC.out _ (Below.refl _ _)).mono ?_;rintro e w1 ⟨rfl,hb⟩;have B1:Hid (Below W.heap.size W w1):=hb;clear hb HC)
    | (go_at_call 120;refine (HT.out _ B1.out).mono ?_;rintro e w2 ⟨⟨v,rfl,ho⟩,hb⟩;obtain ⟨va,vc,rfl⟩:=ownv ho;have O2:Hid (w2.ownsRow W.heap.size 86 4 (.slice va T.length vc) T.length (flat4 T)):=Go.Joins.ownsRow_le ho B1.out.size;have B2:Hid (Below W.heap.size W w2):=bstep B1.out hb;clear hb ho HT))
  go_ret2
  exact ⟨⟨_,rfl,O2.out⟩,B2.out⟩
def bldT (ps:List Plc) (x:Int):List Sl:=if vckE ps x=0 then tabP ps x.toNat else []
theorem chk_zero {ps:List Plc} {x:Int} (h:vckE ps x=0):∃ (k:Nat) (q:Plc),x=(k:Int)∧ps[k]?=some q:=by
  rw [vckE] at h
  rcases plcI_cases ps x with ⟨e,_⟩|⟨k,q,e1,hq,_⟩
  · rw [e] at h;cases h
  · exact ⟨k,q,e1,hq⟩
theorem bld_c {b:Nat} {ps:List Plc} {W:World} (h:WAt b ps W) (hi:WI ps) (hU:UnqM ps) (x:Int):Calls Tryz.prog 46 #[.pointer (some ⟨b,0,none⟩),.int .i64 x] W fun e w'=>(∃ v,e=.returned (.tuple #[v,.int .i64 (vckE ps x)])∧w'.ownsRow W.heap.size 86 4 v (bldT ps x).length (flat4 (bldT ps x)))∧Below W.heap.size W w':=by
  by_cases hz:vckE ps x=0
  · obtain ⟨k,q,rfl,hq⟩:=chk_zero hz
    have hT:bldT ps (k:Int)=tabP ps k:=by rw [bldT,if_pos hz,Int.toNat_natCast]
    rw [hT,hz]
    refine bld_yes W b (k:Int) (tabP ps k) (fun w hb=>?_) (fun w hb=>table_c (h.below hb) hi hU k q hq)
    rw [← hz]
    exact chk_c (h.below hb) _
  · have hT:bldT ps x=[]:=by rw [bldT,if_neg hz]
    rw [hT]
    refine (bld_no W b x (vckE ps x) hz (fun w hb=>chk_c (h.below hb) x)).mono ?_
    rintro e w' ⟨rfl,hb⟩
    exact ⟨⟨_,rfl,World.ownsRow_nil _ _ _ _⟩,hb⟩
theorem siz_n (W:World) (b:Nat) (x E:Int) (T:List Sl) (HB:Hid (∀ w,Below W.heap.size W w→Calls Tryz.prog 46 #[.pointer (some ⟨b,0,none⟩),.int .i64 x] w fun e w'=>(∃ v,e=.returned (.tuple #[v,.int .i64 E])∧w'.ownsRow w.heap.size 86 4 v T.length (flat4 T))∧Below w.heap.size w w')):Calls Tryz.prog 48 #[.pointer (some ⟨b,0,none⟩),.int .i64 x] W fun e w'=>e=.returned (.tuple #[.int .i64 (T.length:Int),.int .i64 E])∧Below W.heap.size W w':=by
  go_enter Tryz.func48,Tryz.ntmps48
  go_wp2_with (go_at_call 46;refine (HB.out _ (Below.refl _ _)).mono ?_;rintro e w2 ⟨⟨v,rfl,ho⟩,hb⟩;obtain ⟨va,vc,rfl⟩:=ownv ho;have B2:Hid (Below W.heap.size W w2):=hb;clear hb ho HB)
  go_ret2
  exact ⟨rfl,B2.out⟩
def slCells (x:Sl):List Value:=[.int .i64 x.1.1,.int .i64 x.1.2,.int .i64 x.2.1,.int .i64 x.2.2]
theorem flat4_at:∀ (l:List Sl) (i:Nat) (x:Sl) (j:Nat),l[i]?=some x→j<4→(flat4 l)[i * 4+j]?=(slCells x)[j]?
  | [],i,x,j,h,_=>by simp at h
  | y::r,0,x,j,h,hj=>by
    simp only [List.getElem?_cons_zero,Option.some.injEq] at h
    subst h
    rw [Nat.zero_mul,Nat.zero_add]
    show (slCells y++flat4 r)[j]?=_
    rw [List.getElem?_append_left (by simpa [slCells] using hj)]
  | y::r,i+1,x,j,h,hj=>by
    rw [List.getElem?_cons_succ] at h
    show (slCells y++flat4 r)[(i+1) * 4+j]?=_
    rw [List.getElem?_append_right (by simp [slCells];omega),show (i+1) * 4+j - (slCells y).length=i * 4+j by simp [slCells];omega]
    exact flat4_at r i x j h hj
theorem own_atS {w:World} {N T n s:Nat} {v:Value} {xs:List Value} (h:w.ownsRow N T s v n xs) (hn:0<n):∃ g cap,v=.slice (some ⟨g,0,none⟩) n cap∧N≤g∧g<w.heap.size∧∀ (j:Nat) (u:Value),xs[j]?=some u→w.cell? ⟨g,j,none⟩=some u:=by
  have hr:=own_rds h
  rcases h.2 with ⟨_,e⟩|⟨g,cap,cur,e1,e2,e3,e4⟩
  · omega
  · subst e1
    refine ⟨g,cap,rfl,e2,(Array.getElem?_eq_some_iff.1 e3).1,fun j u hj=>?_⟩
    rcases hr.val with ⟨e,_⟩|⟨bk,o,cap',e,_,_,_,h4⟩
    · cases e
    · injection e with ea _ _
      injection ea with ea
      injection ea with e5 e6 _
      have:=h4 j u hj
      rw [← e5,← e6,Nat.zero_add] at this
      exact this
theorem msK_len {ps:List Plc} (hi:WI ps) (c:Nat):(msK ps c).length≤1000000:=by
  rw [msK]
  cases e:ps[c]? with
  | none=>simp
  | some q=>exact (hi.pb q (List.mem_of_getElem? e)).ms
theorem foldT_len {ps:List Plc} (hi:WI ps):∀ (l:List Nat) (t:List Sl),(l.foldl (fun (t:List Sl) (c:Nat)=>grwP (ovA ps) (c:Int) (msK ps c) t) t).length≤t.length+l.length * 1000000
  | [],t=>by simp
  | c::r,t=>by
    rw [List.foldl_cons,List.length_cons]
    have h1:=foldT_len hi r (grwP (ovA ps) (c:Int) (msK ps c) t)
    have h2:(grwP (ovA ps) (c:Int) (msK ps c) t).length≤t.length+1000000:=by
      rw [grwP,List.length_append,List.length_map]
      have:=addP_len (c:Int) (t.map (inhP (ovA ps) (c:Int))) (msK ps c) 0
      have:=msK_len hi c
      omega
    omega
theorem tabP_len {ps:List Plc} (hi:WI ps) {k:Nat} (hk:k<ps.length):(tabP ps k).length≤300000000:=by
  rw [tabP,tabL]
  have h1:=foldT_len hi (chL (ps.map nd) k).reverse []
  have h2:=ch_len hi.wo k (by rw [List.length_map];exact hk)
  have h3:=hi.hi
  rw [List.length_reverse,List.length_nil] at h1
  omega
theorem siz_c {b:Nat} {ps:List Plc} {W:World} (h:WAt b ps W) (hi:WI ps) (hU:UnqM ps) (x:Int):Calls Tryz.prog 48 #[.pointer (some ⟨b,0,none⟩),.int .i64 x] W fun e w'=>e=.returned (.tuple #[.int .i64 ((bldT ps x).length:Int),.int .i64 (vckE ps x)])∧Below W.heap.size W w' :=
  siz_n W b x (vckE ps x) (bldT ps x) (fun _ hb=>bld_c (h.below hb) hi hU x)
theorem tabP_cons {ps:List Plc} (hi:WI ps) {k:Nat} (hk:k<ps.length) (h0:0<k):tabP ps k=grwP (ovA ps) (k:Int) (msK ps k) (tabP ps (spO (ps.map nd) k)):=by
  rw [tabP,chL_cons hi.wo (by rw [List.length_map];exact hk) h0,List.reverse_cons,tabL_snoc]
  rfl
theorem inhP_fst (A:Int×Int→List (Int×Int)) (id:Int) (x:Sl):(inhP A id x).1=x.1:=by
  rw [inhP]
  split <;> rfl
theorem grw_roots (A:Int×Int→List (Int×Int)) (id:Int) (ms:List HM) (l:List Sl):(grwP A id ms l).map Prod.fst=l.map Prod.fst++(addP id (l.map (inhP A id)) ms 0).map Prod.fst:=by
  rw [grwP,List.map_append,List.map_map]
  congr 1
  exact List.map_congr_left fun x _=>inhP_fst A id x
theorem tab_roots {ps:List Plc} (hi:WI ps) (r:Nat) (hr:r<ps.length):∀ c∈chL (ps.map nd) r,(tabP ps c).map Prod.fst <+: (tabP ps r).map Prod.fst:=by
  refine ch_ind hi.wo (P:=fun r=>∀ c∈chL (ps.map nd) r,(tabP ps c).map Prod.fst <+: (tabP ps r).map Prod.fst) ?_ ?_ r (by rw [List.length_map];exact hr)
  · intro c hc
    rw [chL_zero,List.mem_singleton] at hc
    subst hc
    exact List.prefix_refl _
  · intro k hk h0 hl ih c hc
    rw [chL_cons hi.wo hk h0,List.mem_cons] at hc
    rcases hc with rfl|hc
    · exact List.prefix_refl _
    · rw [List.length_map] at hk
      rw [tabP_cons hi hk h0,grw_roots]
      exact (ih c hc).trans (List.prefix_append _ _)
theorem ovA_mem {ps:List Plc} {r y:Int×Int} (h:y∈ovA ps r):(ovrI ps y r).1=true:=by
  rw [ovA,alvE] at h
  split at h
  · obtain ⟨k,hk,rfl⟩:=List.mem_map.1 h
    have:=(List.mem_filter.1 hk).2
    rw [ovC,Bool.and_eq_true] at this
    exact this.2
  · cases h
theorem ovr_zero {ps:List Plc} {c a:Int×Int} (h:(ovrI ps c a).1=true):(ovrI ps c a).2=0:=by
  rw [ovrI] at h ⊢
  split at h
  · rfl
  · cases h
theorem methI_at {ps:List Plc} {k:Nat} {q:Plc} (hq:ps[k]?=some q) {i:Nat} {m:HM} (hm:q.c.ms[i]?=some m):methI ps (k:Int) (i:Int)=some m:=by
  rw [methI,plcI_nat,hq]
  show methP q (i:Int)=some m
  rw [methP,if_pos (by omega),Int.toNat_natCast,hm]
theorem addP_form (id:Int) (inh:List Sl):∀ (ms:List HM) (i:Nat) (x:Sl),x∈addP id inh ms i→∃ (j:Nat) (m:HM),ms[j]?=some m∧ownP inh (id,((i+j:Nat):Int)) m=true∧x=((id,((i+j:Nat):Int)),(id,((i+j:Nat):Int)))
  | [],i,x,h=>by cases h
  | y::r,i,x,h=>by
    rw [addP] at h
    rcases List.mem_append.1 h with h|h
    · split at h
      · rename_i ho
        rw [List.mem_singleton] at h
        exact ⟨0,y,rfl,by rw [Nat.add_zero];exact ho,by rw [Nat.add_zero];exact h⟩
      · cases h
    · obtain ⟨j,m,h1,h2,h3⟩:=addP_form id inh r (i+1) x h
      have e:i+(j+1)=(i+1)+j:=by omega
      exact ⟨j+1,m,by rw [List.getElem?_cons_succ];exact h1,by rw [e];exact h2,by rw [e];exact h3⟩
def TO (ps:List Plc) (S:List Nat) (x:Sl):Prop:=(ovrI ps x.2 x.1).1=true∧∃ c∈S,x.2.1=(c:Int)
theorem ovr_self {ps:List Plc} (hW:WI ps) (hU:UnqM ps) {a:Int×Int} {m:HM} (ha:methI ps a.1 a.2=some m) (hs:stB m.fl=false):(ovrI ps a a).1=true :=
  (ovr_iff hW hU ha ha).2.2 ⟨0,rfl,by rw [stI,ha];exact hs⟩
theorem vrt_st {nm:ByteArray} {fl:Int} (h:vrtB nm fl=true):stB fl=false:=by
  rw [vrtB,Bool.and_eq_true] at h
  have h10:hasI fl 10=false:=by rw [hasI];simpa using h.1
  rw [has10c,Bool.or_eq_false_iff] at h10
  exact h10.2
theorem grw_over {ps:List Plc} (hW:WI ps) (hU:UnqM ps) {k:Nat} (hk:k<ps.length) (S:List Nat) (t:List Sl) (ht:∀ x∈t,TO ps S x):∀ x∈grwP (ovA ps) (k:Int) (msK ps k) t,TO ps (S++[k]) x:=by
  intro x hx
  rw [grwP] at hx
  rcases List.mem_append.1 hx with hx|hx
  · obtain ⟨y,hy,rfl⟩:=List.mem_map.1 hx
    obtain ⟨h1,c,hc,h2⟩:=ht y hy
    rw [inhP]
    split
    · rename_i z hz
      have hm:=ovA_mem (List.mem_of_find?_eq_some hz)
      have he:=List.find?_some hz
      exact ⟨hm,k,by simp,by simpa using he⟩
    · exact ⟨h1,c,List.mem_append.2 (.inl hc),h2⟩
  · obtain ⟨j,m,h1,h2,rfl⟩:=addP_form _ _ _ _ _ hx
    have hq:ps[k]?=some ps[k]:=List.getElem?_eq_getElem hk
    rw [msK,hq] at h1
    rw [Nat.zero_add] at h2 ⊢
    refine ⟨ovr_self hW hU (methI_at hq h1) ?_,k,by simp,rfl⟩
    rw [ownP,Bool.and_eq_true] at h2
    exact vrt_st h2.1
theorem fold_over {ps:List Plc} (hW:WI ps) (hU:UnqM ps):∀ (l:List Nat) (_:∀ c∈l,c<ps.length) (S:List Nat) (t:List Sl),(∀ x∈t,TO ps S x)→∀ x∈l.foldl (fun (t:List Sl) (c:Nat)=>grwP (ovA ps) (c:Int) (msK ps c) t) t,TO ps (S++l) x
  | [],_,S,t,ht=>by rw [List.append_nil];exact ht
  | c::r,hl,S,t,ht=>by
    rw [List.foldl_cons]
    have:=fold_over hW hU r (fun d hd=>hl d (List.mem_cons_of_mem _ hd)) (S++[c]) _ (grw_over hW hU (hl c (by simp)) S t ht)
    rwa [List.append_assoc] at this
theorem tab_over {ps:List Plc} (hW:WI ps) (hU:UnqM ps) {k:Nat} (hk:k<ps.length) {x:Sl} (hx:x∈tabP ps k):(ovrI ps x.2 x.1).1=true∧∃ c∈chL (ps.map nd) k,x.2.1=(c:Int):=by
  rw [tabP,tabL] at hx
  obtain ⟨h1,c,hc,h2⟩:=fold_over hW hU _ (fun c hc=>Nat.lt_of_le_of_lt (ch_le hW.wo k (by rw [List.length_map];exact hk) c (List.mem_reverse.1 hc)) hk) [] [] (fun x hx=>by cases hx) x hx
  exact ⟨h1,c,List.mem_reverse.1 (by simpa using hc),h2⟩
theorem addP_nodup (id:Int) (inh:List Sl):∀ (ms:List HM) (i:Nat),((addP id inh ms i).map Prod.fst).Nodup
  | [],i=>by simp [addP]
  | y::r,i=>by
    rw [addP]
    have ih:=addP_nodup id inh r (i+1)
    split
    · rw [List.singleton_append,List.map_cons,List.nodup_cons]
      refine ⟨fun h=>?_,ih⟩
      obtain ⟨x,hx,e⟩:=List.mem_map.1 h
      obtain ⟨j,m,_,_,rfl⟩:=addP_form _ _ _ _ _ hx
      injection e with _ e
      omega
    · exact ih
def RN (S:List Nat) (t:List Sl):Prop:=(t.map Prod.fst).Nodup∧∀ x∈t,∃ c∈S,x.1.1=(c:Int)
theorem grw_rn (A:Int×Int→List (Int×Int)) (k:Nat) (ms:List HM) (S:List Nat) (hk:k ∉ S) (t:List Sl) (ht:RN S t):RN (S++[k]) (grwP A (k:Int) ms t):=by
  refine ⟨?_,fun x hx=>?_⟩
  · rw [grw_roots,List.nodup_append]
    refine ⟨ht.1,addP_nodup _ _ _ _,fun a ha b hb=>?_⟩
    obtain ⟨x,hx,rfl⟩:=List.mem_map.1 ha
    obtain ⟨y,hy,rfl⟩:=List.mem_map.1 hb
    obtain ⟨c,hc,e⟩:=ht.2 x hx
    obtain ⟨j,m,_,_,rfl⟩:=addP_form _ _ _ _ _ hy
    intro e2
    rw [e2] at e
    have:c=k:=by
      have:(k:Int)=(c:Int):=e
      omega
    subst this
    exact hk hc
  · rw [grwP] at hx
    rcases List.mem_append.1 hx with hx|hx
    · obtain ⟨y,hy,rfl⟩:=List.mem_map.1 hx
      obtain ⟨c,hc,e⟩:=ht.2 y hy
      exact ⟨c,List.mem_append.2 (.inl hc),by rw [inhP_fst];exact e⟩
    · obtain ⟨j,m,_,_,rfl⟩:=addP_form _ _ _ _ _ hx
      exact ⟨k,by simp,rfl⟩
theorem fold_rn (ps:List Plc):∀ (l:List Nat) (S:List Nat) (t:List Sl),l.Nodup→(∀ c∈l,c ∉ S)→RN S t→RN (S++l) (l.foldl (fun (t:List Sl) (c:Nat)=>grwP (ovA ps) (c:Int) (msK ps c) t) t)
  | [],S,t,_,_,ht=>by rw [List.append_nil];exact ht
  | c::r,S,t,hn,hd,ht=>by
    rw [List.foldl_cons]
    rw [List.nodup_cons] at hn
    have:=fold_rn ps r (S++[c]) _ hn.2 (fun d hd2 h=>by
      rcases List.mem_append.1 h with h|h
      · exact hd d (List.mem_cons_of_mem _ hd2) h
      · rw [List.mem_singleton] at h
        subst h
        exact hn.1 hd2) (grw_rn (ovA ps) c (msK ps c) S (hd c (by simp)) t ht)
    rwa [List.append_assoc] at this
theorem ch_nodupV {ps:List Plc} (hi:WI ps) (r:Nat) (hr:r<ps.length):(chL (ps.map nd) r).Nodup:=by
  refine ch_ind hi.wo (P:=fun r=>(chL (ps.map nd) r).Nodup) (by rw [chL_zero];simp) ?_ r (by rw [List.length_map];exact hr)
  intro k hk h0 hl ih
  rw [chL_cons hi.wo hk h0,List.nodup_cons]
  refine ⟨fun h=>?_,ih⟩
  have:=ch_le hi.wo _ (by omega) k h
  omega
theorem tab_nodup {ps:List Plc} (hi:WI ps) {k:Nat} (hk:k<ps.length):((tabP ps k).map Prod.fst).Nodup:=by
  rw [tabP,tabL]
  have:=fold_rn ps (chL (ps.map nd) k).reverse [] [] (List.pairwise_reverse.2 ((ch_nodupV hi k hk).imp fun h=>Ne.symm h)) (fun c _ h=>by cases h) ⟨by simp,fun x hx=>by cases hx⟩
  exact this.1
theorem Gr.inh {ps:List Plc} {p:Plc} (h:Gr ps p) {c:Nat} (hc:c<ps.length) {x:Sl} (hx:∃ s,plcI ps x.1.1=some s):inhP (ovA (ps++[p])) (c:Int) x=inhP (ovA ps) (c:Int) x:=by
  obtain ⟨s,hs⟩:=hx
  obtain ⟨T,e,_,_,hT⟩:=h.all hs
  have hf:T.find? (fun y=>y.1 == (c:Int))=none:=List.find?_eq_none.2 fun y hy=>by
    rw [hT y hy]
    simp
    omega
  have e2:ovA (ps++[p]) x.1=ovA ps x.1++T:=e
  rw [inhP,inhP,e2,List.find?_append,hf,Option.or_none]
theorem Gr.msK {ps:List Plc} {p:Plc} {c:Nat} (hc:c<ps.length):Go.Proofs.YtjlfnelihbdhjaaGreat.msK (ps++[p]) c=Go.Proofs.YtjlfnelihbdhjaaGreat.msK ps c:=by
  rw [Go.Proofs.YtjlfnelihbdhjaaGreat.msK,Go.Proofs.YtjlfnelihbdhjaaGreat.msK,List.getElem?_append_left hc]
theorem grw_congr {A A':Int×Int→List (Int×Int)} {id:Int} {ms ms':List HM} (hm:ms'=ms) {t:List Sl} (h:∀ x∈t,inhP A' id x=inhP A id x):grwP A' id ms' t=grwP A id ms t:=by
  have h1:t.map (inhP A' id)=t.map (inhP A id):=List.map_congr_left h
  rw [grwP,grwP,h1,hm]
theorem grw_ok {A:Int×Int→List (Int×Int)} {id:Int} {ms:List HM} {ok:Int→Prop} (hid:ok id) {t:List Sl} (ht:∀ x∈t,ok x.1.1):∀ x∈grwP A id ms t,ok x.1.1:=by
  intro x hx
  rw [grwP] at hx
  rcases List.mem_append.1 hx with hx|hx
  · obtain ⟨y,hy,rfl⟩:=List.mem_map.1 hx
    rw [inhP_fst]
    exact ht y hy
  · obtain ⟨j,m,_,_,rfl⟩:=addP_form _ _ _ _ _ hx
    exact hid
theorem fold_congr {A A':Int×Int→List (Int×Int)} {M M':Nat→List HM} {ok:Int→Prop}:∀ (l:List Nat) (t:List Sl),(∀ c∈l,M' c=M c∧ok (c:Int)∧∀ x:Sl,ok x.1.1→inhP A' (c:Int) x=inhP A (c:Int) x)→(∀ x∈t,ok x.1.1)→l.foldl (fun (t:List Sl) (c:Nat)=>grwP A' (c:Int) (M' c) t) t=l.foldl (fun (t:List Sl) (c:Nat)=>grwP A (c:Int) (M c) t) t
  | [],_,_,_=>rfl
  | c::r,t,hl,ht=>by
    obtain ⟨h1,h2,h3⟩:=hl c (by simp)
    have e:=grw_congr (A:=A) (A':=A') (id:=(c:Int)) h1 (t:=t) (fun x hx=>h3 x (ht x hx))
    rw [List.foldl_cons,List.foldl_cons,e]
    exact fold_congr r _ (fun d hd=>hl d (List.mem_cons_of_mem _ hd)) (grw_ok h2 ht)
theorem Gr.tab {ps:List Plc} {p:Plc} (h:Gr ps p) {k:Nat} (hk:k<ps.length):tabP (ps++[p]) k=tabP ps k:=by
  have hq:plcI ps (k:Int)=some ps[k]:=by rw [plcI_nat];exact List.getElem?_eq_getElem hk
  obtain ⟨e,hin⟩:=h.chn hq
  rw [Int.toNat_natCast] at e hin
  have hf:=fold_congr (A:=ovA ps) (A':=ovA (ps++[p])) (M:=Go.Proofs.YtjlfnelihbdhjaaGreat.msK ps) (M':=Go.Proofs.YtjlfnelihbdhjaaGreat.msK (ps++[p])) (ok:=fun i=>∃ s,plcI ps i=some s) (chL (ps.map nd) k).reverse [] (fun c hc=>⟨Gr.msK (hin c (List.mem_reverse.1 hc)),⟨_,by rw [plcI_nat];exact List.getElem?_eq_getElem (hin c (List.mem_reverse.1 hc))⟩,fun x hx=>h.inh (hin c (List.mem_reverse.1 hc)) hx⟩) (fun x hx=>by cases hx)
  unfold tabP tabL
  rw [e]
  exact hf
theorem ch_ifc {ps:List Plc} (hW:WI ps) {k:Nat} (hk:k<ps.length) (hi:ifcI ps (k:Int)=false) {c:Nat} (hc:c∈chL (ps.map nd) k):ifcI ps (c:Int)=false:=by
  by_cases e:c=k
  · rw [e];exact hi
  · have hkl:k<(ps.map nd).length:=by rw [List.length_map];exact hk
    have hcl:=ch_in hW.wo k hkl c hc
    rw [List.length_map] at hcl
    have:=ch_plain hW.wo k hkl c hc e (nd ps[c]) (by rw [List.getElem?_map,List.getElem?_eq_getElem hcl];rfl)
    rw [ifcI,plcI_nat,List.getElem?_eq_getElem hcl]
    exact this
theorem vck_ifc {ps:List Plc} {x:Int} (h:vckE ps x=0):ifcI ps x=false:=by
  cases e:ifcI ps x with
  | false=>rfl
  | true =>
    rw [vckE] at h
    split at h
    · cases h
    · rw [e] at h;cases h
theorem vck_yes {ps:List Plc} {k:Nat} (hk:k<ps.length) (h:ifcI ps (k:Int)=false):vckE ps (k:Int)=0:=by
  rw [vckE,plcI_nat,List.getElem?_eq_getElem hk,h]
  rfl
set_option maxHeartbeats 4000000 in
theorem sameSlots_eq (N1 N2:Nat) (l:List Sl) (v1 v2:Value) (W:World) (h1:W.ownsRow N1 86 4 v1 l.length (flat4 l)) (h2:W.ownsRow N2 86 4 v2 l.length (flat4 l)) (hn:l.length≤1000000000):Calls Tryz.prog 50 #[v1,v2] W fun e w'=>e=.returned (.bool true)∧Below W.heap.size W w':=by
  obtain ⟨a1,c1,rfl⟩:=ownv h1
  obtain ⟨a2,c2,rfl⟩:=ownv h2
  have H1:Hid (W.ownsRow N1 86 4 (.slice a1 l.length c1) l.length (flat4 l)):=h1
  have H2:Hid (W.ownsRow N2 86 4 (.slice a2 l.length c2) l.length (flat4 l)):=h2
  obtain ⟨K,hK⟩:∃ K,l.length=K:=⟨_,rfl⟩
  have HK:Hid (l.length=K):=hK
  rw [hK] at hn ⊢
  clear h1 h2 hK
  go_enter Tryz.func50,Tryz.ntmps50
  go_wp2
  go_loopw [5] (fun iv wr=>∃ i:Nat,iv=.int .i64 i∧i≤K∧Hid (Below W.heap.size W wr)) (fun iv _=>K - (intOf iv).toNat)
  case atStart=>exact ⟨0,rfl,Nat.zero_le _,Below.refl _ _⟩
  case round =>
    obtain ⟨i,rfl,hi,hb⟩:=hrel
    by_cases hlt:i<K
    · have hlq:i<l.length:=by rw [HK.out];exact hlt
      obtain ⟨x,hx⟩:∃ x,l[i]?=some x:=⟨_,List.getElem?_eq_getElem hlq⟩
      obtain ⟨g1,d1,hf1,_,hgl1,q1⟩:=own_atS H1.out (by omega)
      obtain ⟨g2,d2,hf2,_,hgl2,q2⟩:=own_atS H2.out (by omega)
      injection hf1 with ha1 _ hc1
      injection hf2 with ha2 _ hc2
      subst ha1 hc1 ha2 hc2
      have e0:W.cell? ⟨g1,i * 4,none⟩=_:=q1 _ _ ((flat4_at l i x 0 hx (by decide)).trans rfl)
      have e1:=q1 _ _ ((flat4_at l i x 1 hx (by decide)).trans rfl)
      have e2:=q1 _ _ ((flat4_at l i x 2 hx (by decide)).trans rfl)
      have e3:=q1 _ _ ((flat4_at l i x 3 hx (by decide)).trans rfl)
      have f0:W.cell? ⟨g2,i * 4,none⟩=_:=q2 _ _ ((flat4_at l i x 0 hx (by decide)).trans rfl)
      have f1:=q2 _ _ ((flat4_at l i x 1 hx (by decide)).trans rfl)
      have f2:=q2 _ _ ((flat4_at l i x 2 hx (by decide)).trans rfl)
      have f3:=q2 _ _ ((flat4_at l i x 3 hx (by decide)).trans rfl)
      clear q1 q2
      obtain ⟨σ,V,hne,V1,V2⟩:=class_of' (fun w'=>Below W.heap.size W w') ⟨_,Below.refl _ _⟩
      have kp:∀ (s:σ) (bb j:Nat) (v:Value),bb<W.heap.size→W.cell? ⟨bb,j,none⟩=some v→(V s).cell? ⟨bb,j,none⟩=some v:=fun s bb j v hl h=>((V1.out s).cell (p:=⟨bb,j,none⟩) hl).trans h
      replace e0:=fun s=>kp s _ _ _ hgl1 e0
      replace e1:=fun s=>kp s _ _ _ hgl1 e1
      replace f0:=fun s=>kp s _ _ _ hgl2 f0
      replace f1:=fun s=>kp s _ _ _ hgl2 f1
      replace e2:=fun s=>kp s _ _ _ hgl1 e2
      replace e3:=fun s=>kp s _ _ _ hgl1 e3
      replace f2:=fun s=>kp s _ _ _ hgl2 f2
      replace f3:=fun s=>kp s _ _ _ hgl2 f3
      have HS:Hid (∀ (a1 a2:Int) s,Calls Tryz.prog 24 #[.agg #[.int .i64 a1,.int .i64 a2],.agg #[.int .i64 a1,.int .i64 a2]] (V s) fun e w'=>e=.returned (.bool true)∧∃ s',w'=V s'):=fun a1 a2 s=>(sameID_c (a1,a2) (a1,a2) (V s)).mono fun e w' zz=>⟨by rw [zz.1];simp,V2.out _ (bstep (V1.out s) zz.2)⟩
      have hiI:(i:Int)<(K:Int):=by omega
      obtain ⟨⟨x1,x2⟩,⟨x3,x4⟩⟩:=x
      simp only at e0 e1 e2 e3 f0 f1 f2 f3
      clear hx kp hlq H1 H2
      go_wp2
      refine wp_region_class (C:=fun w'=>∃ s,w'=V s) (by kernel_rfl) (by kernel_rfl) (V2.out _ (hb.out.drew)) ?_
      repeat (go_big_quiet_step ((go_at_call 24;exact HS.out _ _ _)))
      refine wpQuiet_nil ?_
      intro w9 hw9
      obtain ⟨s9,rfl⟩:=hw9
      have B9:Hid (Below W.heap.size W (V s9)):=V1.out s9
      go_wp2
      go_roundw
      case rel=>exact ⟨i+1,by go_num,by omega,B9⟩
      case measure=>simp [intOf];omega
    · have e:i=K:=by omega
      subst e
      go_wp2
      exact bodyPost_ret (results_tmp rfl _ _ _) rfl ⟨rfl,hb.out⟩
theorem vck_cases (ps:List Plc) (x:Int):vckE ps x=0∨(bldT ps x=[]∧(vckE ps x=3∨vckE ps x=23)):=by
  by_cases h:vckE ps x=0
  · exact .inl h
  · refine .inr ⟨by rw [bldT,if_neg h],?_⟩
    rw [vckE] at h ⊢
    split at h
    · exact .inl rfl
    · split at h
      · rename_i hi;rw [if_pos hi];exact .inr rfl
      · exact absurd rfl h
theorem tab_gr {ps:List Plc} {p:Plc} (hg:Gr ps p) {k:Nat} (hk:k<ps.length) (hv:vckE ps (k:Int)=0):vckE (ps++[p]) (k:Int)=0∧bldT (ps++[p]) (k:Int)=bldT ps (k:Int):=by
  obtain ⟨q,hq⟩:=plc_nat hk
  have h1:vckE (ps++[p]) (k:Int)=0:=by
    rw [vckE,Gr.plc hq,Gr.ifc hq]
    rw [vckE,hq] at hv
    exact hv
  refine ⟨h1,?_⟩
  rw [bldT,if_pos h1,bldT,if_pos hv,Int.toNat_natCast]
  exact hg.tab hk
theorem tab_dfP {ps:List Plc} (hW:WI ps) {cl:Cls} (hc:ClsW cl) {k:Nat} (hk:k<ps.length) (hv:vckE ps (k:Int)=0):vckE (dfP ps (defN ps cl)) (k:Int)=0∧bldT (dfP ps (defN ps cl)) (k:Int)=bldT ps (k:Int):=by
  have hW2:=hW.define cl hc
  cases hd:defN ps cl with
  | error e=>exact ⟨hv,rfl⟩
  | ok p =>
    rw [hd] at hW2
    obtain ⟨_,_,hn,s,l,_,_,rfl⟩:=def_ok hd
    exact tab_gr ⟨hW,hW2,hn⟩ hk hv
theorem sup_tab {ps:List Plc} (hW:WI ps) {k:Nat} {q:Plc} (hq:ps[k]?=some q) (hv:vckE ps (k:Int)=0) (h0:0<k):vckE ps (q.sp:Int)=0∧(bldT ps (q.sp:Int)).map Prod.fst <+: (bldT ps (k:Int)).map Prod.fst:=by
  have hk:=(List.getElem?_eq_some_iff.1 hq).1
  have hkl:k<(ps.map nd).length:=by rw [List.length_map];exact hk
  have hsp:spO (ps.map nd) k=q.sp:=by rw [spO,List.getElem?_map,hq];rfl
  have hin:q.sp∈chL (ps.map nd) k:=by rw [chL_cons hW.wo hkl h0,hsp];exact List.mem_cons_of_mem _ (chL_self _ _)
  have hlt:q.sp<ps.length:=by
    have:=hW.wo.spLt hkl h0
    rw [hsp] at this
    omega
  have h1:=vck_yes hlt (ch_ifc hW hk (vck_ifc hv) hin)
  refine ⟨h1,?_⟩
  rw [bldT,if_pos h1,bldT,if_pos hv,Int.toNat_natCast,Int.toNat_natCast]
  exact tab_roots hW k hk q.sp hin
theorem siz3:(bldT P3 0).length=2:=by kernel_rfl
theorem vck3:vckE P3 0=0:=by kernel_rfl
theorem awake13_n (W:World) (HN:Hid (∀ w:World,Calls Tryz.prog 60 #[] w fun e w'=>∃ b,e=.returned (.pointer (some ⟨b,0,none⟩))∧WAt b P3 w'∧Below w.heap.size w w')) (HM:Hid (∀ (w:World) (b:Nat),WAt b P3 w→Calls Tryz.prog 48 #[.pointer (some ⟨b,0,none⟩),.int .i64 0] w fun e w'=>e=.returned (.tuple #[.int .i64 2,.int .i64 0])∧Below w.heap.size w w')):Calls Tryz.prog 44 #[] W fun e w'=>e=.returned (.bool true)∧Below W.heap.size W w':=by
  go_enter Tryz.func44,Tryz.ntmps44
  go_wp2_with (first
    | (go_at_call 60;refine (HN.out _).mono ?_;rintro e w1 ⟨b,rfl,hw,hb⟩;have H1:Hid (WAt b P3 w1):=hw;have B1:Hid (Below W.heap.size W w1):=hb;clear hw hb HN)
    | (go_at_call 48;refine (HM.out _ _ H1.out).mono ?_;rintro e w2 ⟨rfl,hb⟩;have B2:Hid (Below W.heap.size W w2):=bstep B1.out hb;clear hb HM))
  all_goals exact bodyPost_ret (results_tmp rfl _ _ _) rfl ⟨rfl,B2.out⟩
theorem awake13_c (W:World):Calls Tryz.prog 44 #[] W fun e w'=>e=.returned (.bool true)∧Below W.heap.size W w' :=
  awake13_n W (fun w=>(new_any w).mono fun e w' zz=>⟨_,zz.1,by obtain ⟨vp,pv,hw⟩:=zz.2.1;exact hw.wat,zz.2.2⟩) (fun w b h=>(siz_c h wi3 unqM3 0).mono fun e w' zz=>⟨by rw [zz.1,siz3,vck3];rfl,zz.2⟩)
set_option maxHeartbeats 4000000 in
theorem built13_n (v:Value) (l:List Cls) (W:World) (h:IsClss W v l):Calls Tryz.prog 45 #[v] W fun e w'=>(∃ b,e=.returned (.pointer (some ⟨b,0,none⟩))∧∃ mb vp pv,HW w' W.heap.size b mb (wld l) vp pv)∧Below W.heap.size W w':=by
  have hCW:=clss_w h
  obtain ⟨ao,cap,rfl,h1,h2,h3⟩:=h
  unfold maxLen at h2
  obtain ⟨L,hL⟩:∃ L,l.length=L:=⟨_,rfl⟩
  have HL:Hid (l.length=L):=hL
  have HI:Hid _:=h3
  have HCW:Hid (∀ c∈l,ClsW c):=hCW
  rw [hL] at h1 ⊢
  clear hL h3 hCW
  have HN:Hid (∀ w:World,Calls Tryz.prog 60 #[] w fun e w'=>e=.returned (.pointer (some ⟨w.heap.size+1,0,none⟩))∧(∃ vp pv,HW w' w.heap.size (w.heap.size+1) w.heap.size P3 vp pv)∧Below w.heap.size w w'):=new_any
  go_enter Tryz.func45,Tryz.ntmps45
  go_wp2_with (first
    | (go_at_call 60;refine (HN.out _).mono ?_;rintro e w2 ⟨rfl,hw,hb⟩;have H2:Hid (∃ vp pv,HW w2 W.heap.size (W.heap.size+1) W.heap.size P3 vp pv):=hw;have B2:Hid (Below W.heap.size W w2):=hb;clear hb hw HN))
  go_loopw [4] (fun iv wr=>∃ (i:Nat),iv=.int .i64 i∧i≤L∧Hid (∃ vp pv,HW wr W.heap.size (W.heap.size+1) W.heap.size (wld (l.take i)) vp pv)∧Hid (Below W.heap.size W wr)) (fun iv _=>L - (intOf iv).toNat)
  case atStart=>exact ⟨0,rfl,Nat.zero_le _,H2,B2⟩
  case round =>
    clear H2 B2
    obtain ⟨i,rfl,hi,hHW,hB⟩:=hrel
    by_cases hlt:i<L
    · obtain ⟨c,hc⟩:∃ c,l[i]?=some c:=⟨_,List.getElem?_eq_getElem (by rw [HL.out];exact hlt)⟩
      obtain ⟨bk,o,rfl,hbk,hcl⟩:=HI.out (fun e=>by rw [e] at hc;simp at hc)
      obtain ⟨vi,vm,hcell,hin⟩:=hcl i c hc
      have bel:Below W.heap.size W wr:=hB.out
      have p0:wr.cell? ⟨bk,o+i * 6,none⟩=some (.string c.nm):=(bel.cell (p:=⟨bk,o+i * 6,none⟩) hbk).trans (hcell 0 _ rfl)
      have p1:wr.cell? ⟨bk,o+i * 6+1,none⟩=some (.string c.su):=(bel.cell (p:=⟨bk,o+i * 6+1,none⟩) hbk).trans (hcell 1 _ rfl)
      have p2:wr.cell? ⟨bk,o+i * 6+2,none⟩=some vi:=(bel.cell (p:=⟨bk,o+i * 6+2,none⟩) hbk).trans (hcell 2 _ rfl)
      have p3:wr.cell? ⟨bk,o+i * 6+3,none⟩=some (.int .i64 c.fl):=(bel.cell (p:=⟨bk,o+i * 6+3,none⟩) hbk).trans (hcell 3 _ rfl)
      have p4:wr.cell? ⟨bk,o+i * 6+4,none⟩=some (.int .i64 c.ld):=(bel.cell (p:=⟨bk,o+i * 6+4,none⟩) hbk).trans (hcell 4 _ rfl)
      have p5:wr.cell? ⟨bk,o+i * 6+5,none⟩=some vm:=(bel.cell (p:=⟨bk,o+i * 6+5,none⟩) hbk).trans (hcell 5 _ rfl)
      have hWI:WI (wld (l.take i)):=wld_wi _ (fun c hc=>HCW.out c (List.mem_of_mem_take hc))
      have HD:Hid (Calls Tryz.prog 29 #[.pointer (some ⟨W.heap.size+1,0,none⟩),.agg #[.string c.nm,.string c.su,vi,.int .i64 c.fl,.int .i64 c.ld,vm]] wr fun e w'=>(∃ u,e=.returned u)∧Hid (∃ vp pv,HW w' W.heap.size (W.heap.size+1) W.heap.size (wld (l.take (i+1))) vp pv)∧Hid (Below W.heap.size W w')):=by
        obtain ⟨vp,pv,hw⟩:=hHW.out
        refine (define_any W.heap.size (W.heap.size+1) W.heap.size _ vp pv c vi vm wr hw hB.out.size (hin.keep bel) hWI.nm).mono ?_
        rintro e w' ⟨rfl,hw',hb',_⟩
        rw [wld_at hc]
        exact ⟨⟨_,rfl⟩,hw',hB.out.trans hb'⟩
      clear hcl hcell hin hc bel hWI hHW hB HI
      go_wp2_with (go_at_call 29;refine HD.out.mono ?_;rintro e w3 ⟨⟨u3,rfl⟩,hw3,hb3⟩;clear HD)
      go_roundw
      case rel=>exact ⟨i+1,by go_num,by omega,hw3,hb3⟩
      case measure=>simp [intOf];omega
    · have e:i=L:=by omega
      subst e
      have HF:Hid (∃ mb vp pv,HW wr W.heap.size (W.heap.size+1) mb (wld l) vp pv):=by
        obtain ⟨vp,pv,hw⟩:=hHW.out
        rw [List.take_of_length_le (by rw [HL.out];exact Nat.le_refl _)] at hw
        exact ⟨_,_,_,hw⟩
      clear hHW HI
      go_wp2
      exact bodyPost_ret (results_tmp rfl _ _ _) rfl ⟨⟨_,rfl,HF.out⟩,hB.out⟩
end Go.Proofs.YtjlfnelihbdhjaaGreat
