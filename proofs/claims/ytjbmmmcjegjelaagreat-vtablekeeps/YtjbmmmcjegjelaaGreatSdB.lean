import Derived.Test.YtjbmmmcjegjelaaGreatVtG
import Derived.Test.YtjbmmmcjegjelaaGreatLcQ
import Derived.Test.YtjbmmmcjegjelaaGreatVtD
import Derived.Test.YtjbmmmcjegjelaaGreatRnF
import Derived.Test.YtjbmmmcjegjelaaGreatRpE
import Derived.Test.YtjbmmmcjegjelaaGreatRnI
import Derived.Test.YtjbmmmcjegjelaaGreatRfA
import Derived.Test.YtjbmmmcjegjelaaGreatSq
set_option maxHeartbeats 8000000
set_option maxRecDepth 100000
namespace Go.Proofs.YtjbmmmcjegjelaaGreat
open Go.RowKit Go.Maps
theorem chk_n (W:World) (b:Nat) (x:Int) (N:Nat) (f:Bool) (HL:Hid (∀ w,Below W.heap.size W w→Calls Tryz.prog 49 #[.pointer (some ⟨b,0,none⟩)] w fun e w'=>e=.returned (.int .i64 (N:Int))∧w'=w)) (HF:Hid (∀ w,Below W.heap.size W w→Calls Tryz.prog 30 #[.pointer (some ⟨b,0,none⟩),.int .i64 x] w fun e w'=>e=.returned (.bool f)∧Below w.heap.size w w')) (E:Int) (hE:E=if x<0∨(N:Int)≤x then 3 else if f then 23 else 0):Calls Tryz.prog 23 #[.pointer (some ⟨b,0,none⟩),.int .i64 x] W fun e w'=>e=.returned (.int .i64 E)∧Below W.heap.size W w':=by
  by_cases h0:x<0
  · have e1:E=3:=by rw [hE,if_pos (.inl h0)]
    subst e1
    clear hE
    go_enter Tryz.func23,Tryz.ntmps23
    go_wp2
    go_ret
    exact ⟨rfl,Below.refl _ _⟩
  · by_cases h1:(N:Int)≤x
    · have e1:E=3:=by rw [hE,if_pos (.inr h1)]
      subst e1
      clear hE
      go_enter Tryz.func23,Tryz.ntmps23
      go_wp2_with (go_at_call 49;refine (HL.out _ (Below.refl _ _)).mono ?_;rintro e w9 ⟨rfl,hw9⟩;rw [hw9];clear hw9 w9 HL)
      go_ret
      exact ⟨rfl,Below.refl _ _⟩
    · cases f
      · have e1:E=0:=by rw [hE,if_neg (by omega)];rfl
        subst e1
        clear hE
        go_enter Tryz.func23,Tryz.ntmps23
        go_wp2_with (first
          | (go_at_call 49;refine (HL.out _ (Below.refl _ _)).mono ?_;rintro e w9 ⟨rfl,hw9⟩;rw [hw9];clear hw9 w9 HL)
          | (go_at_call 30;refine (HF.out _ (Below.refl _ _)).mono ?_;rintro e w2 ⟨rfl,hb⟩;have B2:Hid (Below W.heap.size W w2):=hb;clear hb HF))
        go_ret
        exact ⟨rfl,B2.out⟩
      · have e1:E=23:=by rw [hE,if_neg (by omega)];rfl
        subst e1
        clear hE
        go_enter Tryz.func23,Tryz.ntmps23
        go_wp2_with (first
          | (go_at_call 49;refine (HL.out _ (Below.refl _ _)).mono ?_;rintro e w9 ⟨rfl,hw9⟩;rw [hw9];clear hw9 w9 HL)
          | (go_at_call 30;refine (HF.out _ (Below.refl _ _)).mono ?_;rintro e w2 ⟨rfl,hb⟩;have B2:Hid (Below W.heap.size W w2):=hb;clear hb HF))
        go_ret
        exact ⟨rfl,B2.out⟩
def vckE (ps:List Plc) (x:Int):Int:=match plcI ps x with
  | none=>3
  | some _=>if ifcI ps x then 23 else 0
theorem chk_c {b:Nat} {ps:List Plc} {W:World} (h:WAt b ps W) (x:Int):Calls Tryz.prog 23 #[.pointer (some ⟨b,0,none⟩),.int .i64 x] W fun e w'=>e=.returned (.int .i64 (vckE ps x))∧Below W.heap.size W w':=by
  refine chk_n W b x ps.length (ifcI ps x) (fun w hb=>len_c (h.below hb)) (fun w hb=>Zbi (h.below hb) x) _ ?_
  rw [vckE]
  rcases Zn ps x with ⟨e,hn⟩|⟨k,q,rfl,hq,e⟩
  · rw [e,if_pos (show x<0∨(ps.length:Int)≤x by omega)]
  · have:=(List.getElem?_eq_some_iff.1 hq).1
    rw [e,if_neg (show ¬ ((k:Int)<0∨(ps.length:Int)≤(k:Int)) by omega)]
theorem bld_no (W:World) (b:Nat) (x E:Int) (hE:¬ E=0) (HC:Hid (∀ w,Below W.heap.size W w→Calls Tryz.prog 23 #[.pointer (some ⟨b,0,none⟩),.int .i64 x] w fun e w'=>e=.returned (.int .i64 E)∧Below w.heap.size w w')):Calls Tryz.prog 9 #[.pointer (some ⟨b,0,none⟩),.int .i64 x] W fun e w'=>e=.returned (.tuple #[.slice none 0 0,.int .i64 E])∧Below W.heap.size W w':=by
  go_enter Tryz.func9,Tryz.ntmps9
  go_wp2_with (go_at_call 23;refine (HC.out _ (Below.refl _ _)).mono ?_;rintro e w1 ⟨rfl,hb⟩;have B1:Hid (Below W.heap.size W w1):=hb;clear hb HC)
  go_ret2
  exact ⟨rfl,B1.out⟩
theorem bld_yes (W:World) (b:Nat) (x:Int) (T:List Sl) (HC:Hid (∀ w,Below W.heap.size W w→Calls Tryz.prog 23 #[.pointer (some ⟨b,0,none⟩),.int .i64 x] w fun e w'=>e=.returned (.int .i64 0)∧Below w.heap.size w w')) (HT:Hid (∀ w,Below W.heap.size W w→Calls Tryz.prog 24 #[.pointer (some ⟨b,0,none⟩),.int .i64 x] w fun e w'=>(∃ v,e=.returned v∧w'.ownsRow w.heap.size 48 4 v T.length (Yu T))∧Below w.heap.size w w')):Calls Tryz.prog 9 #[.pointer (some ⟨b,0,none⟩),.int .i64 x] W fun e w'=>(∃ v,e=.returned (.tuple #[v,.int .i64 0])∧w'.ownsRow W.heap.size 48 4 v T.length (Yu T))∧Below W.heap.size W w':=by
  go_enter Tryz.func9,Tryz.ntmps9
  go_wp2_with (first
    | (go_at_call 23;refine (HC.out _ (Below.refl _ _)).mono ?_;rintro e w1 ⟨rfl,hb⟩;have B1:Hid (Below W.heap.size W w1):=hb;clear hb HC)
    | (go_at_call 24;refine (HT.out _ B1.out).mono ?_;rintro e w2 ⟨⟨v,rfl,ho⟩,hb⟩;obtain ⟨va,vc,rfl⟩:=ownv ho;have O2:Hid (w2.ownsRow W.heap.size 48 4 (.slice va T.length vc) T.length (Yu T)):=Go.Joins.ownsRow_le ho B1.out.size;have B2:Hid (Below W.heap.size W w2):=Zc B1.out hb;clear hb ho HT))
  go_ret2
  exact ⟨⟨_,rfl,O2.out⟩,B2.out⟩
def bldT (ps:List Plc) (x:Int):List Sl:=if vckE ps x=0 then tabP ps x.toNat else []
theorem Zic {ps:List Plc} {x:Int} (h:vckE ps x=0):∃ (k:Nat) (q:Plc),x=(k:Int)∧ps[k]?=some q:=by
  rw [vckE] at h
  rcases Zn ps x with ⟨e,_⟩|⟨k,q,e1,hq,_⟩
  · rw [e] at h;cases h
  · exact ⟨k,q,e1,hq⟩
theorem bld_c {b:Nat} {ps:List Plc} {W:World} (h:WAt b ps W) (hi:WI ps) (hU:UnqM ps) (x:Int):Calls Tryz.prog 9 #[.pointer (some ⟨b,0,none⟩),.int .i64 x] W fun e w'=>(∃ v,e=.returned (.tuple #[v,.int .i64 (vckE ps x)])∧w'.ownsRow W.heap.size 48 4 v (bldT ps x).length (Yu (bldT ps x)))∧Below W.heap.size W w':=by
  by_cases hz:vckE ps x=0
  · obtain ⟨k,q,rfl,hq⟩:=Zic hz
    have hT:bldT ps (k:Int)=tabP ps k:=by rw [bldT,if_pos hz,Int.toNat_natCast]
    rw [hT,hz]
    refine bld_yes W b (k:Int) (tabP ps k) (fun w hb=>?_) (fun w hb=>table_c (h.below hb) hi hU k q hq)
    rw [← hz]
    exact chk_c (h.below hb) _
  · have hT:bldT ps x=[]:=by rw [bldT,if_neg hz]
    rw [hT]
    refine (bld_no W b x (vckE ps x) hz (fun w hb=>chk_c (h.below hb) x)).mono ?_
    rintro e w' ⟨rfl,hb⟩
    exact ⟨⟨_,rfl,World.ownsRow_nil _ _ _ _⟩,hb⟩
theorem siz_n (W:World) (b:Nat) (x E:Int) (T:List Sl) (HB:Hid (∀ w,Below W.heap.size W w→Calls Tryz.prog 9 #[.pointer (some ⟨b,0,none⟩),.int .i64 x] w fun e w'=>(∃ v,e=.returned (.tuple #[v,.int .i64 E])∧w'.ownsRow w.heap.size 48 4 v T.length (Yu T))∧Below w.heap.size w w')):Calls Tryz.prog 11 #[.pointer (some ⟨b,0,none⟩),.int .i64 x] W fun e w'=>e=.returned (.tuple #[.int .i64 (T.length:Int),.int .i64 E])∧Below W.heap.size W w':=by
  go_enter Tryz.func11,Tryz.ntmps11
  go_wp2_with (go_at_call 9;refine (HB.out _ (Below.refl _ _)).mono ?_;rintro e w2 ⟨⟨v,rfl,ho⟩,hb⟩;obtain ⟨va,vc,rfl⟩:=ownv ho;have B2:Hid (Below W.heap.size W w2):=hb;clear hb ho HB)
  go_ret2
  exact ⟨rfl,B2.out⟩
def Qz (x:Sl):List Value:=[.int .i64 x.1.1,.int .i64 x.1.2,.int .i64 x.2.1,.int .i64 x.2.2]
theorem Y8:∀ (l:List Sl) (i:Nat) (x:Sl) (j:Nat),l[i]?=some x→j<4→(Yu l)[i * 4+j]?=(Qz x)[j]?
  | [],i,x,j,h,_=>by simp at h
  | y::r,0,x,j,h,hj=>by
    simp only [List.getElem?_cons_zero,Option.some.injEq] at h
    subst h
    rw [Nat.zero_mul,Nat.zero_add]
    show (Qz y++Yu r)[j]?=_
    rw [List.getElem?_append_left (by simpa [Qz] using hj)]
  | y::r,i+1,x,j,h,hj=>by
    rw [List.getElem?_cons_succ] at h
    show (Qz y++Yu r)[(i+1) * 4+j]?=_
    rw [List.getElem?_append_right (by simp [Qz];omega),show (i+1) * 4+j - (Qz y).length=i * 4+j by simp [Qz];omega]
    exact Y8 r i x j h hj
theorem Zkr {w:World} {N T n s:Nat} {v:Value} {xs:List Value} (h:w.ownsRow N T s v n xs) (hn:0<n):∃ g cap,v=.slice (some ⟨g,0,none⟩) n cap∧N≤g∧g<w.heap.size∧∀ (j:Nat) (u:Value),xs[j]?=some u→w.cell? ⟨g,j,none⟩=some u:=by
  have hr:=Z2 h
  rcases h.2 with ⟨_,e⟩|⟨g,cap,cur,e1,e2,e3,e4⟩
  · omega
  · subst e1
    refine ⟨g,cap,rfl,e2,(Array.getElem?_eq_some_iff.1 e3).1,fun j u hj=>?_⟩
    rcases hr.val with ⟨e,_⟩|⟨bk,o,cap',e,_,_,_,h4⟩
    · cases e
    · injection e with ea _ _
      injection ea with ea
      injection ea with e5 e6 _
      have:=h4 j u hj
      rw [← e5,← e6,Nat.zero_add] at this
      exact this
theorem Zkz {ps:List Plc} (hi:WI ps) (c:Nat):(msK ps c).length≤1000000:=by
  rw [msK]
  cases e:ps[c]? with
  | none=>simp
  | some q=>exact (hi.pb q (List.mem_of_getElem? e)).ms
theorem Zft {ps:List Plc} (hi:WI ps):∀ (l:List Nat) (t:List Sl),(l.foldl (fun (t:List Sl) (c:Nat)=>grwP (ovA ps) (c:Int) (msK ps c) t) t).length≤t.length+l.length * 1000000
  | [],t=>by simp
  | c::r,t=>by
    rw [List.foldl_cons,List.length_cons]
    have h1:=Zft hi r (grwP (ovA ps) (c:Int) (msK ps c) t)
    have h2:(grwP (ovA ps) (c:Int) (msK ps c) t).length≤t.length+1000000:=by
      rw [grwP,List.length_append,List.length_map]
      have:=Za4 (c:Int) (t.map (inhP (ovA ps) (c:Int))) (msK ps c) 0
      have:=Zkz hi c
      omega
    omega
theorem Zc9 {ps:List Plc} (hi:WI ps) {k:Nat} (hk:k<ps.length):(tabP ps k).length≤300000000:=by
  rw [tabP,tabL]
  have h1:=Zft hi (chL (ps.map nd) k).reverse []
  have h2:=Zid hi.wo k (by rw [List.length_map];exact hk)
  have h3:=hi.hi
  rw [List.length_reverse,List.length_nil] at h1
  omega
theorem siz_c {b:Nat} {ps:List Plc} {W:World} (h:WAt b ps W) (hi:WI ps) (hU:UnqM ps) (x:Int):Calls Tryz.prog 11 #[.pointer (some ⟨b,0,none⟩),.int .i64 x] W fun e w'=>e=.returned (.tuple #[.int .i64 ((bldT ps x).length:Int),.int .i64 (vckE ps x)])∧Below W.heap.size W w' :=
  siz_n W b x (vckE ps x) (bldT ps x) (fun _ hb=>bld_c (h.below hb) hi hU x)
theorem Zeo {ps:List Plc} (hi:WI ps) {k:Nat} (hk:k<ps.length) (h0:0<k):tabP ps k=grwP (ovA ps) (k:Int) (msK ps k) (tabP ps (spO (ps.map nd) k)):=by
  rw [tabP,Yf hi.wo (by rw [List.length_map];exact hk) h0,List.reverse_cons,Zep]
  rfl
theorem Zdw (A:Int×Int→List (Int×Int)) (id:Int) (x:Sl):(inhP A id x).1=x.1:=by
  rw [inhP]
  split <;> rfl
theorem Zfo (A:Int×Int→List (Int×Int)) (id:Int) (ms:List HM) (l:List Sl):(grwP A id ms l).map Prod.fst=l.map Prod.fst++(addP id (l.map (inhP A id)) ms 0).map Prod.fst:=by
  rw [grwP,List.map_append,List.map_map]
  congr 1
  exact List.map_congr_left fun x _=>Zdw A id x
theorem ovA_mem {ps:List Plc} {r y:Int×Int} (h:y∈ovA ps r):(ovrI ps y r).1=true:=by
  rw [ovA,alvE] at h
  split at h
  · obtain ⟨k,hk,rfl⟩:=List.mem_map.1 h
    have:=(List.mem_filter.1 hk).2
    rw [ovC,Bool.and_eq_true] at this
    exact this.2
  · cases h
theorem Jn {ps:List Plc} {k:Nat} {q:Plc} (hq:ps[k]?=some q) {i:Nat} {m:HM} (hm:q.c.ms[i]?=some m):Zp ps (k:Int) (i:Int)=some m:=by
  rw [Zp,Z8,hq]
  show Y6 q (i:Int)=some m
  rw [Y6,if_pos (by omega),Int.toNat_natCast,hm]
theorem Zbz (id:Int) (inh:List Sl):∀ (ms:List HM) (i:Nat) (x:Sl),x∈addP id inh ms i→∃ (j:Nat) (m:HM),ms[j]?=some m∧ownP inh (id,((i+j:Nat):Int)) m=true∧x=((id,((i+j:Nat):Int)),(id,((i+j:Nat):Int)))
  | [],i,x,h=>by cases h
  | y::r,i,x,h=>by
    rw [addP] at h
    rcases List.mem_append.1 h with h|h
    · split at h
      · rename_i ho
        rw [List.mem_singleton] at h
        exact ⟨0,y,rfl,by rw [Nat.add_zero];exact ho,by rw [Nat.add_zero];exact h⟩
      · cases h
    · obtain ⟨j,m,h1,h2,h3⟩:=Zbz id inh r (i+1) x h
      have e:i+(j+1)=(i+1)+j:=by omega
      exact ⟨j+1,m,by rw [List.getElem?_cons_succ];exact h1,by rw [e];exact h2,by rw [e];exact h3⟩
def TO (ps:List Plc) (S:List Nat) (x:Sl):Prop:=(ovrI ps x.2 x.1).1=true∧∃ c∈S,x.2.1=(c:Int)
theorem Zhq {ps:List Plc} (hW:WI ps) (hU:UnqM ps) {a:Int×Int} {m:HM} (ha:Zp ps a.1 a.2=some m) (hs:stB m.fl=false):(ovrI ps a a).1=true :=
  (Zbf hW hU ha ha).2.2 ⟨0,rfl,by rw [stI,ha];exact hs⟩
theorem vrt_st {nm:ByteArray} {fl:Int} (h:vrtB nm fl=true):stB fl=false:=by
  rw [vrtB,Bool.and_eq_true] at h
  have h10:hasI fl 10=false:=by rw [hasI];simpa using h.1
  rw [has10c,Bool.or_eq_false_iff] at h10
  exact h10.2
theorem grw_over {ps:List Plc} (hW:WI ps) (hU:UnqM ps) {k:Nat} (hk:k<ps.length) (S:List Nat) (t:List Sl) (ht:∀ x∈t,TO ps S x):∀ x∈grwP (ovA ps) (k:Int) (msK ps k) t,TO ps (S++[k]) x:=by
  intro x hx
  rw [grwP] at hx
  rcases List.mem_append.1 hx with hx|hx
  · obtain ⟨y,hy,rfl⟩:=List.mem_map.1 hx
    obtain ⟨h1,c,hc,h2⟩:=ht y hy
    rw [inhP]
    split
    · rename_i z hz
      have hm:=ovA_mem (List.mem_of_find?_eq_some hz)
      have he:=List.find?_some hz
      exact ⟨hm,k,by simp,by simpa using he⟩
    · exact ⟨h1,c,List.mem_append.2 (.inl hc),h2⟩
  · obtain ⟨j,m,h1,h2,rfl⟩:=Zbz _ _ _ _ _ hx
    have hq:ps[k]?=some ps[k]:=List.getElem?_eq_getElem hk
    rw [msK,hq] at h1
    rw [Nat.zero_add] at h2 ⊢
    refine ⟨Zhq hW hU (Jn hq h1) ?_,k,by simp,rfl⟩
    rw [ownP,Bool.and_eq_true] at h2
    exact vrt_st h2.1
theorem Zfs {ps:List Plc} (hW:WI ps) (hU:UnqM ps):∀ (l:List Nat) (_:∀ c∈l,c<ps.length) (S:List Nat) (t:List Sl),(∀ x∈t,TO ps S x)→∀ x∈l.foldl (fun (t:List Sl) (c:Nat)=>grwP (ovA ps) (c:Int) (msK ps c) t) t,TO ps (S++l) x
  | [],_,S,t,ht=>by rw [List.append_nil];exact ht
  | c::r,hl,S,t,ht=>by
    rw [List.foldl_cons]
    have:=Zfs hW hU r (fun d hd=>hl d (List.mem_cons_of_mem _ hd)) (S++[c]) _ (grw_over hW hU (hl c (by simp)) S t ht)
    rwa [List.append_assoc] at this
theorem tab_over {ps:List Plc} (hW:WI ps) (hU:UnqM ps) {k:Nat} (hk:k<ps.length) {x:Sl} (hx:x∈tabP ps k):(ovrI ps x.2 x.1).1=true∧∃ c∈chL (ps.map nd) k,x.2.1=(c:Int):=by
  rw [tabP,tabL] at hx
  obtain ⟨h1,c,hc,h2⟩:=Zfs hW hU _ (fun c hc=>Nat.lt_of_le_of_lt (Zeg hW.wo k (by rw [List.length_map];exact hk) c (List.mem_reverse.1 hc)) hk) [] [] (fun x hx=>by cases hx) x hx
  exact ⟨h1,c,List.mem_reverse.1 (by simpa using hc),h2⟩
theorem chkn_c (W:World) (x:Int):Calls Tryz.prog 23 #[.pointer none,.int .i64 x] W fun e w'=>e=.returned (.int .i64 2)∧Below W.heap.size W w':=by
  go_enter Tryz.func23,Tryz.ntmps23
  go_wp2
  exact bodyPost_ret (results_tmp rfl _ _ _) rfl ⟨rfl,Below.refl _ _⟩
theorem bldn_c (W:World) (x:Int):Calls Tryz.prog 9 #[.pointer none,.int .i64 x] W fun e w'=>e=.returned (.tuple #[.slice none 0 0,.int .i64 2])∧Below W.heap.size W w':=by
  have HC:Hid (∀ w:World,Calls Tryz.prog 23 #[.pointer none,.int .i64 x] w fun e w'=>e=.returned (.int .i64 2)∧Below w.heap.size w w'):=fun w=>chkn_c w x
  go_enter Tryz.func9,Tryz.ntmps9
  go_wp2_with (go_at_call 23;refine (HC.out _).mono ?_;rintro e w1 ⟨rfl,hb⟩;have B1:Hid (Below W.heap.size W w1):=hb;clear hb HC)
  exact bodyPost_ret (results_tmp2 rfl _ _ _) rfl ⟨rfl,B1.out⟩
theorem sizn_c (W:World) (x:Int):Calls Tryz.prog 11 #[.pointer none,.int .i64 x] W fun e w'=>e=.returned (.tuple #[.int .i64 0,.int .i64 2])∧Below W.heap.size W w':=by
  have HC:Hid (∀ w:World,Calls Tryz.prog 9 #[.pointer none,.int .i64 x] w fun e w'=>e=.returned (.tuple #[.slice none 0 0,.int .i64 2])∧Below w.heap.size w w'):=fun w=>bldn_c w x
  go_enter Tryz.func11,Tryz.ntmps11
  go_wp2_with (go_at_call 9;refine (HC.out _).mono ?_;rintro e w1 ⟨rfl,hb⟩;have B1:Hid (Below W.heap.size W w1):=hb;clear hb HC)
  exact bodyPost_ret (results_tmp2 rfl _ _ _) rfl ⟨rfl,B1.out⟩
theorem vrdn_c (W:World) (c i:Int):Calls Tryz.prog 29 #[.pointer none,.agg #[.int .i64 c,.int .i64 i]] W fun e w'=>e=.returned (.tuple #[.agg #[.string ⟨#[]⟩,.string ⟨#[]⟩,.int .i64 0,.int .i64 0,.int .i64 0,.slice none 0 0],.int .i64 2])∧Below W.heap.size W w':=by
  go_enter Tryz.func29,Tryz.ntmps29
  go_wp2
  exact bodyPost_ret (v:=.tuple #[.agg #[.string ⟨#[]⟩,.string ⟨#[]⟩,.int .i64 0,.int .i64 0,.int .i64 0,.slice none 0 0],.int .i64 2]) (by simp [results,Tryz.results29,go_sem, *]) rfl ⟨rfl,sqR⟩
theorem slo_n (W:World) (c i x:Int) (hx:¬ x=0) (HR:Hid (∀ w,Below W.heap.size W w→Calls Tryz.prog 29 #[.pointer none,.agg #[.int .i64 c,.int .i64 i]] w fun e w'=>e=.returned (.tuple #[.agg #[.string ⟨#[]⟩,.string ⟨#[]⟩,.int .i64 0,.int .i64 0,.int .i64 0,.slice none 0 0],.int .i64 x])∧Below w.heap.size w w')):Calls Tryz.prog 14 #[.pointer none,.agg #[.int .i64 c,.int .i64 i]] W fun e w'=>e=.returned (.tuple #[.int .i64 0,.int .i64 x])∧Below W.heap.size W w':=by
  go_enter Tryz.func14,Tryz.ntmps14
  go_wp2_with (go_at_call 29;refine (HR.out _ sqR).mono ?_;rintro e w1 ⟨rfl,hb⟩;have mmd:=kp2 (n:=W.heap.size) hb (by simp) (Zl _ _);obtain ⟨mmB,mm0,mm1,mmf,mmL,mmN⟩:=mmd;have B1:Hid (Below W.heap.size W w1):=Zc sqR hb;clear hb HR)
  go_ret2
  exact ⟨rfl,(sqE B1)⟩
theorem sel_n (W:World) (r c i:Int) (x:Int) (hx:¬ x=0) (HR:Hid (∀ w,Below W.heap.size W w→Calls Tryz.prog 29 #[.pointer none,.agg #[.int .i64 c,.int .i64 i]] w fun e w'=>e=.returned (.tuple #[.agg #[.string ⟨#[]⟩,.string ⟨#[]⟩,.int .i64 0,.int .i64 0,.int .i64 0,.slice none 0 0],.int .i64 x])∧Below w.heap.size w w')):Calls Tryz.prog 16 #[.pointer none,.int .i64 r,.agg #[.int .i64 c,.int .i64 i]] W fun e w'=>e=.returned (.tuple #[.agg #[.int .i64 0,.int .i64 0],.int .i64 x])∧Below W.heap.size W w':=by
  go_enter Tryz.func16,Tryz.ntmps16
  go_wp2_with (first
    | (go_at_call 29;refine (HR.out _ sqR).mono ?_;rintro e w1 ⟨rfl,hb⟩;have mmd:=kp2 (n:=W.heap.size) hb;(try clear mmB mm0 mm1 mmf mmL mmN);obtain ⟨mmB,mm0,mm1,mmf,mmL,mmN⟩:=mmd;have zzd:=kp2 (n:=W.heap.size+1) hb;(try clear zzB zz0 zz1 zzf zzL zzN);obtain ⟨zzB,zz0,zz1,zzf,zzL,zzN⟩:=zzd;have B1:Hid (Below W.heap.size W w1):=Zc sqR hb;clear hb HR))
  exact bodyPost_ret (v:=.tuple #[.agg #[.int .i64 0,.int .i64 0],.int .i64 x]) (by simp [results,Tryz.results16,go_sem, *]) rfl ⟨rfl,(sqE B1)⟩
theorem slon_c (W:World) (c i:Int):Calls Tryz.prog 14 #[.pointer none,.agg #[.int .i64 c,.int .i64 i]] W fun e w'=>e=.returned (.tuple #[.int .i64 0,.int .i64 2])∧Below W.heap.size W w':=slo_n W c i 2 (by decide) (fun w _=>vrdn_c w c i)
theorem seln_c (W:World) (r c i:Int):Calls Tryz.prog 16 #[.pointer none,.int .i64 r,.agg #[.int .i64 c,.int .i64 i]] W fun e w'=>e=.returned (.tuple #[.agg #[.int .i64 0,.int .i64 0],.int .i64 2])∧Below W.heap.size W w':=sel_n W r c i 2 (by decide) (fun w _=>vrdn_c w c i)
theorem Zk7 {ps:List Plc} {k:Nat} (hk:k<ps.length) {x:Sl} {m:HM} (hm:Zp ps x.1.1 x.1.2=some m):inhP (ovA ps) (k:Int) x=if ovC ps m.nm m.ds x.1 k then (x.1,gK ps m.nm m.ds k) else x:=by
  have he:ovA ps x.1=(allK ps m.nm m.ds x.1).map (gK ps m.nm m.ds):=by rw [ovA,alvE,hm]
  rw [inhP,he]
  cases h:((allK ps m.nm m.ds x.1).map (gK ps m.nm m.ds)).find? (fun y=>y.1 == (k:Int)) with
  | some z =>
    obtain ⟨j,hj,rfl⟩:=List.mem_map.1 (List.mem_of_find?_eq_some h)
    have h1:=List.find?_some h
    have:j=k:=by
      simp [gK] at h1
      omega
    subst this
    rw [if_pos (List.mem_filter.1 hj).2]
  | none =>
    rw [List.find?_eq_none] at h
    have:ovC ps m.nm m.ds x.1 k=false:=by
      cases ho:ovC ps m.nm m.ds x.1 k with
      | false=>rfl
      | true=>exact absurd (h _ (List.mem_map.2 ⟨k,List.mem_filter.2 ⟨List.mem_range.2 hk,ho⟩,rfl⟩)) (by simp [gK])
    rw [this];rfl
theorem Zgc (ps:List Plc) (nm ds:ByteArray) (a:Int×Int) (k:Nat) (l:List Nat):firD ps nm ds a (k::l)=if ovC ps nm ds a k then (gK ps nm ds k,0) else firD ps nm ds a l:=by
  rw [firD,firD,List.find?_cons]
  cases ovC ps nm ds a k <;> rfl
theorem ovC_own {ps:List Plc} (hW:WI ps) (hU:UnqM ps) {k:Nat} {i:Int} {m:HM} (ha:Zp ps (k:Int) i=some m) (hs:stB m.fl=false):ovC ps m.nm m.ds ((k:Int),i) k=true∧gK ps m.nm m.ds k=((k:Int),i):=by
  have hf:=hU.fnd ha rfl rfl
  have hg:gK ps m.nm m.ds k=((k:Int),i):=by rw [gK,hf]
  refine ⟨?_,hg⟩
  rw [ovC,Bool.and_eq_true]
  exact ⟨by rw [hf];rfl,by rw [hg];exact Zhq hW hU ha hs⟩
def SlF (ps:List Plc) (k:Nat) (x:Sl):Prop:=∃ m,Zp ps x.1.1 x.1.2=some m∧vrtB m.nm m.fl=true∧firD ps m.nm m.ds x.1 (chL (ps.map nd) k)=(x.2,0)
theorem Zgi {ps:List Plc} (hW:WI ps) (hU:UnqM ps) {k:Nat} (hk:k<ps.length) {t:List Sl} {x:Sl} (hx:x∈addP (k:Int) t (msK ps k) 0):SlF ps k x:=by
  obtain ⟨j,m,h1,h2,rfl⟩:=Zbz _ _ _ _ _ hx
  have hq:ps[k]?=some ps[k]:=List.getElem?_eq_getElem hk
  rw [msK,hq] at h1
  rw [Nat.zero_add] at h2 ⊢
  rw [ownP,Bool.and_eq_true] at h2
  obtain ⟨o1,o2⟩:=ovC_own hW hU (Jn hq h1) (vrt_st h2.1)
  refine ⟨m,Jn hq h1,h2.1,?_⟩
  have hh:=ch_head (ns:=ps.map nd) k
  cases hc:chL (ps.map nd) k with
  | nil=>rw [hc] at hh;cases hh
  | cons y r =>
    rw [hc] at hh
    have:y=k:=by simpa using hh
    subst this
    rw [Zgc,if_pos o1,o2]
theorem Zen {ps:List Plc} (hW:WI ps) (hU:UnqM ps):∀ k,k<ps.length→∀ x∈tabP ps k,SlF ps k x:=by
  intro k hk
  refine Zam (P:=fun k=>∀ x∈tabP ps k,SlF ps k x) hW.wo ?_ ?_ k (by rw [List.length_map];exact hk)
  · intro x hx
    rw [tabP,Yl] at hx
    have hx2:x∈grwP (ovA ps) (0:Int) (msK ps 0) []:=hx
    rw [grwP,List.map_nil,List.nil_append] at hx2
    exact Zgi hW hU (by omega) hx2
  · intro k hkl h0 hsp ih x hx
    have hk:k<ps.length:=by simpa using hkl
    rw [Zeo hW hk h0,grwP] at hx
    rcases List.mem_append.1 hx with hx|hx
    · obtain ⟨y,hy,rfl⟩:=List.mem_map.1 hx
      obtain ⟨m,hm,hv,hf⟩:=ih y hy
      refine ⟨m,by rw [Zdw];exact hm,hv,?_⟩
      rw [Zdw,Yf hW.wo hkl h0,Zgc,Zk7 hk hm]
      cases ovC ps m.nm m.ds y.1 k with
      | true=>rfl
      | false=>exact hf
    · exact Zgi hW hU hk hx
theorem has5d (f:Int):hasI f 5=(hasI f 1||hasI f 4):=by
  have e5:bits .and .i64 f 5=IntKind.wrap .i64 (((BitVec.ofInt 64 f).toNat &&& 5:Nat):Int):=rfl
  have e1:bits .and .i64 f 1=IntKind.wrap .i64 (((BitVec.ofInt 64 f).toNat &&& 1:Nat):Int):=rfl
  have e4:bits .and .i64 f 4=IntKind.wrap .i64 (((BitVec.ofInt 64 f).toNat &&& 4:Nat):Int):=rfl
  have h:(BitVec.ofInt 64 f).toNat &&& 5=((BitVec.ofInt 64 f).toNat &&& 1) ||| ((BitVec.ofInt 64 f).toNat &&& 4):=by
    rw [← Nat.and_or_distrib_left];rfl
  unfold hasI
  rw [e5,e1,e4,h]
  have h2:(BitVec.ofInt 64 f).toNat &&& 1≤1:=Nat.and_le_right
  have h8:(BitVec.ofInt 64 f).toNat &&& 4≤4:=Nat.and_le_right
  have h8':((BitVec.ofInt 64 f).toNat &&& 4) &&& 4=(BitVec.ofInt 64 f).toNat &&& 4:=by rw [Nat.and_assoc,Nat.and_self]
  generalize (BitVec.ofInt 64 f).toNat &&& 1=a at *
  generalize (BitVec.ofInt 64 f).toNat &&& 4=b at *
  have ha:a=0∨a=1:=by omega
  have hb:b=0∨b=4:=by
    have:b=0∨b=1∨b=2∨b=3∨b=4:=by omega
    rcases this with rfl|rfl|rfl|rfl|rfl
    · exact .inl rfl
    all_goals first|exact .inr rfl|exact absurd h8' (by decide)
  rcases ha with rfl|rfl <;> rcases hb with rfl|rfl <;> decide
theorem Zks (f:Int):opnB f=(hasI f 1||hasI f 4):=has5d f
theorem sh_iff {ps:List Plc} (hW:WI ps) (hU:UnqM ps) {k:Nat} (hk:k<ps.length) {i:Int} {m:HM} (hm:Zp ps (k:Int) i=some m) {s:Nat} (hs:s<k) {x:Sl} (hx:x∈tabP ps s):(inhP (ovA ps) (k:Int) x).2=((k:Int),i)↔(ovrI ps ((k:Int),i) x.1).1=true:=by
  obtain ⟨mR,hR,hvR,_⟩:=Zen hW hU s (by omega) x hx
  rw [Zk7 hk hR,(Zbf hW hU hR hm).2]
  constructor
  · intro h
    split at h
    · rename_i ho
      have:=(Q6 hW hU hR).1 ho
      simp only at h
      rwa [h] at this
    · obtain ⟨_,c,hc,e⟩:=tab_over hW hU (by omega:s<ps.length) hx
      have h1:=Zeg hW.wo s (by rw [List.length_map];omega) c hc
      rw [h] at e
      simp only at e
      omega
  · intro h
    obtain ⟨k2,_,e,ho,_⟩:=Zi4 hW hU hR h
    have:k2=k:=by
      have:=congrArg Prod.fst e
      simp only [gK] at this
      omega
    subst this
    rw [if_pos ho]
    exact e.symm
def addD (ps:List Plc) (k:Nat) (ab:List (Int×Int)):List HM→Nat→List (Int×Int)
  | [],_=>[]
  | m::r,i=>(if vrtB m.nm m.fl&&!(opnB m.fl&&ab.any fun R=>(ovrI ps ((k:Int),(i:Int)) R).1) then [((k:Int),(i:Int))] else [])++addD ps k ab r (i+1)
theorem Zb0 (ps:List Plc) (k:Nat) (ab:List (Int×Int)) (m:HM):∀ (ms:List HM) (i:Nat),addD ps k ab (ms++[m]) i=addD ps k ab ms i++(if vrtB m.nm m.fl&&!(opnB m.fl&&ab.any fun R=>(ovrI ps ((k:Int),((i+ms.length:Nat):Int)) R).1) then [((k:Int),((i+ms.length:Nat):Int))] else [])
  | [],i=>by simp [addD]
  | x::r,i=>by
    rw [List.cons_append,addD,Zb0 ps k ab m r (i+1),addD,List.append_assoc,List.length_cons,show i+1+r.length=i+(r.length+1) by omega]
theorem Zej (ps:List Plc) (k:Nat) (ab:List (Int×Int)):∀ (ms:List HM) (i:Nat),(addD ps k ab ms i).length≤ms.length
  | [],i=>Nat.le_refl _
  | x::r,i=>by
    have:=Zej ps k ab r (i+1)
    rw [addD,List.length_append,List.length_cons]
    split <;> simp <;> omega
theorem any_eq {α:Type} {p q:α→Bool}:∀ {l:List α},(∀ x∈l,p x=q x)→l.any p=l.any q
  | [],_=>rfl
  | x::r,h=>by
    rw [List.any_cons,List.any_cons,h x (List.mem_cons_self ..),any_eq (fun y hy=>h y (List.mem_cons_of_mem _ hy))]
theorem Zma {ps:List Plc} (hW:WI ps) (hU:UnqM ps) {k:Nat} {q:Plc} (hq:ps[k]?=some q) {T:List Sl} (hT:T=[]∨∃ s,s<k∧T=tabP ps s):∀ (ms:List HM) (i:Nat),(∀ j m,ms[j]?=some m→q.c.ms[i+j]?=some m)→(addP (k:Int) (T.map (inhP (ovA ps) (k:Int))) ms i).map Prod.fst=addD ps k (T.map Prod.fst) ms i
  | [],i,_=>rfl
  | m::r,i,h=>by
    have hk:k<ps.length:=(List.getElem?_eq_some_iff.1 hq).1
    have h0:Zp ps (k:Int) (i:Int)=some m:=Jn hq (by have:=h 0 m rfl;simpa using this)
    have e:((T.map (inhP (ovA ps) (k:Int))).any fun x=>(x.2.1 == (k:Int))&&(x.2.2 == (i:Int)))=(T.map Prod.fst).any fun R=>(ovrI ps ((k:Int),(i:Int)) R).1:=by
      rw [List.any_map,List.any_map]
      refine any_eq fun x hx=>?_
      rcases hT with rfl|⟨s,hs,rfl⟩
      · cases hx
      · have:=sh_iff hW hU hk h0 hs hx
        show ((inhP (ovA ps) (k:Int) x).2.1 == (k:Int)&&(inhP (ovA ps) (k:Int) x).2.2 == (i:Int))=(ovrI ps ((k:Int),(i:Int)) x.1).1
        rw [Bool.eq_iff_iff,Bool.and_eq_true,beq_iff_eq,beq_iff_eq,← this]
        constructor
        · rintro ⟨h1,h2⟩;exact Prod.ext h1 h2
        · intro h1;rw [h1];exact ⟨rfl,rfl⟩
    rw [addP,addD,List.map_append,Zma hW hU hq hT r (i+1) (fun j m hj=>by have:=h (j+1) m (by simpa using hj);rwa [show i+1+j=i+(j+1) by omega])]
    congr 1
    rw [ownP,e]
    split <;> simp
def rtsD (ps:List Plc) (k:Nat):List (Int×Int):=(tabP ps k).map Prod.fst
theorem Zk0 {ps:List Plc} {k:Nat} {q:Plc} (hq:ps[k]?=some q):msK ps k=q.c.ms:=by rw [msK,hq]
theorem Zjz {ps:List Plc} (hW:WI ps) (hU:UnqM ps) {q:Plc} (hq:ps[0]?=some q):rtsD ps 0=[]++addD ps 0 [] q.c.ms 0:=by
  have e:tabP ps 0=grwP (ovA ps) ((0:Nat):Int) (msK ps 0) []:=rfl
  rw [rtsD,e,Zfo,Zk0 hq,List.map_nil]
  have:=Zma hW hU hq (T:=[]) (.inl rfl) q.c.ms 0 (fun j m hj=>by rwa [Nat.zero_add])
  rw [this]
  rfl
theorem Zj0 {ps:List Plc} (hW:WI ps) (hU:UnqM ps) {k:Nat} {q:Plc} (hq:ps[k]?=some q) (h0:0<k):spO (ps.map nd) k<k∧rtsD ps k=rtsD ps (spO (ps.map nd) k)++addD ps k (rtsD ps (spO (ps.map nd) k)) q.c.ms 0:=by
  have hk:k<ps.length:=(List.getElem?_eq_some_iff.1 hq).1
  have hs:spO (ps.map nd) k<k:=hW.wo.spLt (by rw [List.length_map];exact hk) h0
  refine ⟨hs,?_⟩
  rw [rtsD,Zeo hW hk h0,Zfo,Zk0 hq,Zma hW hU hq (.inr ⟨_,hs,rfl⟩) q.c.ms 0 (fun j m hj=>by rwa [Nat.zero_add])]
  rfl
theorem rts_len {ps:List Plc} (hW:WI ps) {k:Nat} (hk:k<ps.length):(rtsD ps k).length≤300000000:=by
  rw [rtsD,List.length_map];exact Zc9 hW hk
theorem Zjy {ps:List Plc} (hW:WI ps) (hU:UnqM ps) {k:Nat} {q:Plc} (hq:ps[k]?=some q) {x:Sl} (hx:x∈tabP ps k):firI ps (k:Int) x.1=(x.2,0):=by
  obtain ⟨m,hm,_,hF⟩:=Zen hW hU k (List.getElem?_eq_some_iff.1 hq).1 x hx
  rw [Zf9 hW hU hm hq,hF]
theorem callR9ov (vs:Array Value) (w:World):(callFunc 54 vs).run Tryz.prog w=.ok (.enter 54 vs) w:=by simp [go_sem]
theorem rab_at {w:World} {aa:Option Addr} {A ca:Nat} {ab:List (Int×Int)} (h:Rds w (.slice aa A ca) A 2 (Zm ab)) {j:Nat} {R:Int×Int} (hR:ab[j]?=some R):∃ g o,aa=some ⟨g,o,none⟩∧(g<w.heap.size∧w.cell? ⟨g,o+j * 2,none⟩=some (.int .i64 R.1))∧w.cell? ⟨g,o+j * 2+1,none⟩=some (.int .i64 R.2):=by
  have hl:j<ab.length:=(List.getElem?_eq_some_iff.1 hR).1
  have hlen:=h.len
  rw [Zfx] at hlen
  rcases h.val with ⟨e,e2⟩|⟨g,o,cap,e,_,_,hg,hc⟩
  · omega
  · injection e with e1 _ _
    refine ⟨g,o,e1,⟨hg,hc (j * 2) _ (Zd1 _ _ _ hR).1⟩,?_⟩
    have:=hc (j * 2+1) _ (Zd1 _ _ _ hR).2
    rwa [← Nat.add_assoc] at this
theorem rts_s (ps:List Plc) (W:World) (b g CL cap k:Nat) (am:Option Addr) (n cm:Nat) (ms:List HM) (ab:List (Int×Int)) (A:Nat) (HAL:Hid (ab.length=A)) (hA:A≤300000000) (s:Nat) (hk0:¬ (k:Int)=0) (HS:Hid (∀ w,Below W.heap.size W w→Calls Tryz.prog 53 #[.pointer (some ⟨b,0,none⟩),.int .i64 (k:Int)] w fun e w'=>e=.returned (.tuple #[.int .i64 (s:Int),.int .i64 0])∧w'=w)) (HR:Hid (∀ w,Below W.heap.size W w→Calls Tryz.prog 27 #[.pointer (some ⟨b,0,none⟩),.int .i64 (s:Int)] w fun e w'=>(∃ v,e=.returned v∧w'.ownsRow w.heap.size 39 2 v ab.length (Zm ab))∧Below w.heap.size w w'))
    (b0:W.cell? ⟨b,0,none⟩=some (.slice (some ⟨g,0,none⟩) CL cap)) (hbl:b<W.heap.size) (hgl:g<W.heap.size) (hkI:(k:Int)<(CL:Int)) (c5:W.cell? ⟨g,k * 6+5,none⟩=some (.slice am n cm)) (hn:n≤1000000) (HNL:Hid (ms.length=n))
    (HMS:Hid (∀ (j:Nat) (m:HM),ms[j]?=some m→∃ bk o,am=some ⟨bk,o,none⟩∧bk<W.heap.size∧W.cell? ⟨bk,o+j * 6+2,none⟩=some (.int .i64 m.fl)))
    (HV:Hid (∀ (j:Nat) (m:HM),ms[j]?=some m→∀ w,Below W.heap.size W w→Calls Tryz.prog 36 #[.pointer (some ⟨b,0,none⟩),.agg #[.int .i64 (k:Int),.int .i64 (j:Int)]] w fun e w'=>e=.returned (.bool (vrtB m.nm m.fl))∧Below w.heap.size w w'))
    (HO:Hid (∀ (j:Nat) (m:HM),ms[j]?=some m→∀ R∈ab,∀ w,Below W.heap.size W w→Calls Tryz.prog 54 #[.pointer (some ⟨b,0,none⟩),.agg #[.int .i64 (k:Int),.int .i64 (j:Int)],.agg #[.int .i64 R.1,.int .i64 R.2]] w fun e w'=>(∃ E:Int,e=.returned (.tuple #[.bool (ovrI ps ((k:Int),(j:Int)) R).1,.int .i64 E]))∧Below w.heap.size w w')) :
    Calls Tryz.prog 27 #[.pointer (some ⟨b,0,none⟩),.int .i64 (k:Int)] W fun e w'=>(∃ v,e=.returned v∧w'.ownsRow W.heap.size 39 2 v (ab++addD ps k ab ms 0).length (Zm (ab++addD ps k ab ms 0)))∧Below W.heap.size W w':=by
  obtain ⟨i0,hi0,hz0,hz1,hz2⟩:=info_parts Tryz.hinfoD
  have B0:Hid (W.cell? ⟨b,0,none⟩=some (.slice (some ⟨g,0,none⟩) CL cap)):=b0
  have C5:Hid (W.cell? ⟨g,k * 6+5,none⟩=some (.slice am n cm)):=c5
  go_enter Tryz.func27,Tryz.ntmps27
  have hkn:¬ k=0:=by omega
  have hk1:((k:Int) == 0)=false:=by simp;exact hkn
  go_wp2_with (first|(go_at_call 53;refine (HS.out _ (Below.refl _ _)).mono ?_;rintro e w9 ⟨rfl,hw9⟩;rw [hw9];clear hw9 w9 HS)|(go_at_call 27;refine (HR.out _ (Below.refl _ _)).mono ?_;rintro e V ⟨⟨v0,rfl,ho⟩,hb⟩;rw [HAL.out] at ho;obtain ⟨aa,ca,rfl⟩:=ownv ho;have RAB:Hid (Rds V (.slice aa A ca) A 2 (Zm ab)):=Z2 ho;have BV:Hid (Below W.heap.size W V):=hb;clear ho hb HR)|(at_builtin;refine Yk rfl _ _ 60 rfl V.heap.size 39 i0 (.agg #[.int .i64 0,.int .i64 0]) 2 16 Tryz.underlying60 hi0 hz0 hz1 hz2 rfl (by decide) (.slice (some ⟨V.heap.size,0,none⟩) 0 0) 0 [] rfl (Qa _ _ (by simp) _ _ _ (by simp)) (.slice aa A ca) A (Zm ab) rfl (.inl (RAB.out.keep ((Below.refl _ _).alloc (Nat.le_refl _) _))) ?c0 ?c1 ?c2 ?c3 ?_))
  case c0=>exact Zfw ab
  case c1=>unfold maxLen;omega
  case c2=>omega
  case c3=>simp
  intro v' w1 hown hgrow
  have hB1:Below V.heap.size V w1:=by
    refine Below.grown (w:=V.alloc (.cells #[] 39)) ((Below.refl _ V).alloc (Nat.le_refl _) _) hgrow (by simp) (fun x hx=>?_)
    cases hx
    exact Nat.le_refl _
  (try rw [Nat.zero_add] at hown)
  (try rw [List.nil_append] at hown)
  have OL:Hid (w1.ownsRow V.heap.size 39 2 v' (ab++addD ps k ab (ms.take 0) 0).length (Zm (ab++addD ps k ab (ms.take 0) 0))):=by
    rw [List.take_zero,addD,List.append_nil,HAL.out]
    exact hown
  have OB1:Hid (Below V.heap.size V w1):=hB1
  clear hown hgrow hB1
  go_wp2
  go_loopw [8,9] (fun sv iv wr=>∃ i:Nat,iv=.int .i64 i∧i≤n∧Hid (wr.ownsRow V.heap.size 39 2 sv (ab++addD ps k ab (ms.take i) 0).length (Zm (ab++addD ps k ab (ms.take i) 0)))∧Hid (Below V.heap.size V wr)) (fun _ iv _=>n - (intOf iv).toNat)
  case atStart=>exact ⟨0,rfl,Nat.zero_le _,OL,OB1⟩
  case round =>
    obtain ⟨i,rfl,hi,hO,hB⟩:=hrel
    clear OL OB1 b0 c5
    have bW:Below W.heap.size W wr:=Zc BV.out hB.out
    have b0:wr.cell? ⟨b,0,none⟩=some (.slice (some ⟨g,0,none⟩) CL cap):=(bW.cell (p:=⟨b,0,none⟩) hbl).trans B0.out
    have c5:wr.cell? ⟨g,k * 6+5,none⟩=some (.slice am n cm):=(bW.cell (p:=⟨g,k * 6+5,none⟩) hgl).trans C5.out
    have hbr:b<wr.heap.size:=Nat.lt_of_lt_of_le hbl bW.size
    have hgr:g<wr.heap.size:=Nat.lt_of_lt_of_le hgl bW.size
    by_cases hlt:i<n
    · have hiI:(i:Int)<(n:Int):=by omega
      obtain ⟨m,hm⟩:∃ m,ms[i]?=some m:=⟨_,List.getElem?_eq_getElem (by rw [HNL.out];exact hlt)⟩
      obtain ⟨bk,o,rfl,hbk,hfl⟩:=HMS.out i m hm
      have hbkr:bk<wr.heap.size:=Nat.lt_of_lt_of_le hbk bW.size
      have HST:Hid ((ab++addD ps k ab (ms.take (i+1)) 0)=(ab++addD ps k ab (ms.take i) 0)++(if vrtB m.nm m.fl&&!(opnB m.fl&&ab.any fun R=>(ovrI ps ((k:Int),(i:Int)) R).1) then [((k:Int),(i:Int))] else [])):=by
        show _=_
        rw [List.take_add_one,hm,Option.toList_some,Zb0,List.append_assoc,List.length_take,Nat.min_eq_left (by rw [HNL.out];omega),Nat.zero_add]
      have hll:(ab++addD ps k ab (ms.take i) 0).length≤400000000:=by
        have h1:=Zej ps k ab (ms.take i) 0
        rw [List.length_take] at h1
        rw [List.length_append,HAL.out]
        omega
      obtain ⟨LS,hLS⟩:∃ LS,(ab++addD ps k ab (ms.take i) 0)=LS:=⟨_,rfl⟩
      rw [hLS] at hO HST hll
      obtain ⟨la,lc,rfl⟩:=ownv hO.out
      have HVi:Hid (∀ w,Below W.heap.size W w→Calls Tryz.prog 36 #[.pointer (some ⟨b,0,none⟩),.agg #[.int .i64 (k:Int),.int .i64 (i:Int)]] w fun e w'=>e=.returned (.bool (vrtB m.nm m.fl))∧Below w.heap.size w w'):=HV.out i m hm
      have HOi:Hid (∀ R∈ab,∀ w,Below W.heap.size W w→Calls Tryz.prog 54 #[.pointer (some ⟨b,0,none⟩),.agg #[.int .i64 (k:Int),.int .i64 (i:Int)],.agg #[.int .i64 R.1,.int .i64 R.2]] w fun e w'=>(∃ E:Int,e=.returned (.tuple #[.bool (ovrI ps ((k:Int),(i:Int)) R).1,.int .i64 E]))∧Below w.heap.size w w'):=HO.out i m hm
      have HFL:Hid (W.cell? ⟨bk,o+i * 6+2,none⟩=some (.int .i64 m.fl)):=hfl
      have H1:Hid (∀ w:World,Calls Tryz.prog 46 #[.int .i64 m.fl,.int .i64 1] w fun e w'=>e=.returned (.bool (hasI m.fl 1))∧w'=w):=Z3 m.fl 1
      have H4:Hid (∀ w:World,Calls Tryz.prog 46 #[.int .i64 m.fl,.int .i64 4] w fun e w'=>e=.returned (.bool (hasI m.fl 4))∧w'=w):=Z3 m.fl 4
      rw [Zks] at HST
      clear hLS hm hfl
      generalize vrtB m.nm m.fl=vb at *
      generalize hasI m.fl 1=h1 at *
      generalize hasI m.fl 4=h4 at *
      obtain ⟨MF,hMF⟩:∃ MF,m.fl=MF:=⟨_,rfl⟩
      rw [hMF] at HFL H1 H4
      clear hMF
      cases vb
      · go_wp2_with (go_at_call 36;refine (HVi.out _ (Zc BV.out (sqE hB))).mono ?_;rintro e w2 ⟨rfl,hb⟩;have OL:Hid (w2.ownsRow V.heap.size 39 2 (.slice la LS.length lc) LS.length (Zm LS)):=Za (hO.out.alloc _) hb;have B2:Hid (Below V.heap.size V w2):=Zc (sqE hB) hb;clear hb HVi)
        exact ⟨⟨i+1,by simp,by omega,(by have e:=HST.out;simp only [Bool.false_and,Bool.false_eq_true,↓reduceIte,List.append_nil] at e;rw [e];exact OL),B2⟩,by simp [intOf];omega⟩
      · go_wp2_with (go_at_call 36;refine (HVi.out _ (Zc BV.out (sqE hB))).mono ?_;rintro e w2 ⟨rfl,hb⟩;have mmd:=kp2 (n:=wr.heap.size) hb (by first|omega|(simp;try omega)) (Zl _ _);(try clear mmB mm0 mm1 mmf mmL mmN);obtain ⟨mmB,mm0,mm1,mmf,mmL,mmN⟩:=mmd;have OL:Hid (w2.ownsRow V.heap.size 39 2 (.slice la LS.length lc) LS.length (Zm LS)):=Za (hO.out.alloc _) hb;have B2:Hid (Below V.heap.size V w2):=Zc (sqE hB) hb;have bW2:Below W.heap.size W w2:=Zc BV.out B2.out;clear b0 c5;have b0:w2.cell? ⟨b,0,none⟩=some (.slice (some ⟨g,0,none⟩) CL cap):=(bW2.cell (p:=⟨b,0,none⟩) hbl).trans B0.out;have c5:w2.cell? ⟨g,k * 6+5,none⟩=some (.slice (some ⟨bk,o,none⟩) n cm):=(bW2.cell (p:=⟨g,k * 6+5,none⟩) hgl).trans C5.out;have fl2:w2.cell? ⟨bk,o+i * 6+2,none⟩=some (.int .i64 MF):=(bW2.cell (p:=⟨bk,o+i * 6+2,none⟩) hbk).trans HFL.out;have BW2:Hid (Below W.heap.size W w2):=bW2;have hbr2:b<w2.heap.size:=Nat.lt_of_lt_of_le hbl bW2.size;have hgr2:g<w2.heap.size:=Nat.lt_of_lt_of_le hgl bW2.size;have hbk2:bk<w2.heap.size:=Nat.lt_of_lt_of_le hbk bW2.size;have MB:Hid (w2.heap[wr.heap.size]?=some (.cells #[.int .i64 (k:Int),.int .i64 (i:Int)] 39 (0,0))):=mmB.out;clear hb HVi bW2)
        cases h1
        case' false=>cases h4
        case false.false =>
          go_wp2_with (first|(go_at_call 46;refine (H1.out _).mono ?_;rintro e w9 ⟨rfl,hw9⟩;rw [hw9];clear hw9 w9 H1)|(go_at_call 46;refine (H4.out _).mono ?_;rintro e w9 ⟨rfl,hw9⟩;rw [hw9];clear hw9 w9 H4)|(at_builtin;refine wpList_append_own _ rfl _ _ 60 rfl V.heap.size 39 i0 (.agg #[.int .i64 0,.int .i64 0]) 2 16 Tryz.underlying60 hi0 hz0 hz1 hz2 rfl (by decide) (.slice la LS.length lc) LS.length (Zm LS) rfl (OL.out.alloc _) ⟨w2.heap.size,0,none⟩ 1 1 [.int .i64 (k:Int),.int .i64 (i:Int)] rfl rfl ?c1 ?c2 ?c3 ?c4 ?c5 ?_))
          case c1=>exact World.news_of_block (cs:=#[.int .i64 (k:Int),.int .i64 (i:Int)]) (Zl _ _)
          case c2=>intro u hu;simp at hu;rcases hu with rfl|rfl <;> rfl
          case c3=>unfold maxLen;omega
          case c4=>omega
          case c5=>have:=B2.out.size;simp;omega
          intro v5 w5 hown hgrow _
          have hb5:Hid (Below V.heap.size V w5):=by
            refine (B2.out.alloc B2.out.size _).grown hgrow (by have:=B2.out.size;simp;omega) (fun z hz=>?_)
            exact (OL.out.lt z hz).1
          go_wp2
          exact ⟨⟨i+1,by simp,by omega,(by have e:=HST.out;simp only [Bool.or_self,Bool.false_and,Bool.not_false,Bool.and_self,↓reduceIte] at e;rw [e,List.length_append,List.length_singleton,Xe];exact hown),hb5⟩,by simp [intOf];omega⟩
        all_goals
          have HSU:Hid ((ab++addD ps k ab (ms.take (i+1)) 0)=LS++(if !(ab.any fun R=>(ovrI ps ((k:Int),(i:Int)) R).1) then [((k:Int),(i:Int))] else [])):=(by have e:=HST.out;simp only [Bool.true_and,Bool.or_true,Bool.true_or] at e;exact e)
          go_wp2_with (first|(go_at_call 46;refine (H1.out _).mono ?_;rintro e w9 ⟨rfl,hw9⟩;rw [hw9];clear hw9 w9 H1)|(go_at_call 46;refine (H4.out _).mono ?_;rintro e w9 ⟨rfl,hw9⟩;rw [hw9];clear hw9 w9 H4))
          clear HST b0 c5 fl2
          obtain ⟨wx,hwx⟩:∃ wx,wx=wr:=⟨_,rfl⟩
          subst hwx
          go_loopw [11,13] (fun sv jv wr=>∃ j:Nat,sv=.bool ((ab.take j).any fun R=>(ovrI ps ((k:Int),(i:Int)) R).1)∧jv=.int .i64 j∧j≤A∧Hid (Below w2.heap.size w2 wr)) (fun _ jv _=>A - (intOf jv).toNat)
          case atStart=>exact ⟨0,rfl,rfl,Nat.zero_le _,Below.refl _ _⟩
          case round =>
            obtain ⟨j,rfl,rfl,hj,hC⟩:=hrel
            clear mmB mm0 mm1 mmf mmL mmN
            have mmL0:wx.heap.size<w2.heap.size:=(Array.getElem?_eq_some_iff.1 MB.out).1
            obtain ⟨mmB,mm0,mm1,mmf,mmL,mmN⟩:=kp2 (n:=wx.heap.size) hC.out mmL0 MB.out
            by_cases hlj:j<A
            · have hjI:(j:Int)<(A:Int):=by omega
              obtain ⟨R,hR⟩:∃ R,ab[j]?=some R:=⟨_,List.getElem?_eq_getElem (by rw [HAL.out];exact hlj)⟩
              have HOj:Hid (∀ w,Below W.heap.size W w→Calls Tryz.prog 54 #[.pointer (some ⟨b,0,none⟩),.agg #[.int .i64 (k:Int),.int .i64 (i:Int)],.agg #[.int .i64 R.1,.int .i64 R.2]] w fun e w'=>(∃ E:Int,e=.returned (.tuple #[.bool (ovrI ps ((k:Int),(i:Int)) R).1,.int .i64 E]))∧Below w.heap.size w w'):=HOi.out R (List.mem_of_getElem? hR)
              obtain ⟨g2,o2,hg2,cx0,cx1⟩:=rab_at RAB.out hR
              subst hg2
              have bV:Below V.heap.size V wr:=Zc B2.out hC.out
              have g2V:g2<V.heap.size:=cx0.1
              have cy0:wr.cell? ⟨g2,o2+j * 2,none⟩=some (.int .i64 R.1):=(bV.cell (p:=⟨g2,o2+j * 2,none⟩) g2V).trans cx0.2
              have cy1:wr.cell? ⟨g2,o2+j * 2+1,none⟩=some (.int .i64 R.2):=(bV.cell (p:=⟨g2,o2+j * 2+1,none⟩) g2V).trans cx1
              have g2r:g2<wr.heap.size:=Nat.lt_of_lt_of_le g2V bV.size
              have g2n:¬ g2=wr.heap.size:=by omega
              have HSJ:Hid ((ab.take (j+1)).any (fun R=>(ovrI ps ((k:Int),(i:Int)) R).1)=((ab.take j).any (fun R=>(ovrI ps ((k:Int),(i:Int)) R).1)||(ovrI ps ((k:Int),(i:Int)) R).1)):=by
                show _=_
                rw [List.take_add_one,hR,Option.toList_some,List.any_append];simp
              have BWr:Hid (Below W.heap.size W wr):=Zc BW2.out hC.out
              clear cx0 cx1 bV hR HOi
              generalize (ab.take j).any (fun R=>(ovrI ps ((k:Int),(i:Int)) R).1)=s1 at *
              generalize (ovrI ps ((k:Int),(i:Int)) R).1=s2 at *
              go_upto_region 17 with fail
              go_region_law (refine Zce rfl 54 callR9ov (.tmp 75) (.tmp 76) (.tmp 80) 26 39 39 rfl (.pointer (some ⟨b,0,none⟩)) (.agg #[.int .i64 (k:Int),.int .i64 (i:Int)]) (.agg #[.int .i64 R.1,.int .i64 R.2]) (by simp [Act.eval]) (by simp [Act.eval]) (by simp [Act.eval]) (HOj.out _ BWr.out.drew) ?_;rintro e w3 ⟨⟨E,rfl⟩,hb⟩;refine ⟨_,rfl,?_⟩;have C3:Hid (Below w2.heap.size w2 w3):=Zc hC.out.drew hb;clear hb HOj)
              all_goals (cases s1 <;> go_wp2)
              all_goals exact ⟨⟨j+1,(by rw [HSJ.out];simp),by simp,by omega,C3⟩,by simp [intOf];omega⟩
            · have e:j=A:=by omega
              subst e
              have eT:ab.take j=ab:=List.take_of_length_le (by rw [HAL.out];exact Nat.le_refl _)
              rw [eT]
              clear eT
              have OL2:Hid (wr.ownsRow V.heap.size 39 2 (.slice la LS.length lc) LS.length (Zm LS)):=Za OL.out hC.out
              have B4:Hid (Below V.heap.size V wr):=Zc B2.out hC.out
              clear OL B2
              have HSU2:=HSU.out
              generalize (ab.any fun R=>(ovrI ps ((k:Int),(i:Int)) R).1)=sh at HSU2 ⊢
              have HSU3:Hid _:=HSU2
              clear HSU HSU2 HOi
              cases sh
              · go_wp2_with (at_builtin;refine wpList_append_own _ rfl _ _ 60 rfl V.heap.size 39 i0 (.agg #[.int .i64 0,.int .i64 0]) 2 16 Tryz.underlying60 hi0 hz0 hz1 hz2 rfl (by decide) (.slice la LS.length lc) LS.length (Zm LS) rfl (OL2.out.alloc _) ⟨wr.heap.size,0,none⟩ 1 1 [.int .i64 (k:Int),.int .i64 (i:Int)] rfl rfl ?c1 ?c2 ?c3 ?c4 ?c5 ?_)
                case c1=>exact World.news_of_block (cs:=#[.int .i64 (k:Int),.int .i64 (i:Int)]) (Zl _ _)
                case c2=>intro u hu;simp at hu;rcases hu with rfl|rfl <;> rfl
                case c3=>unfold maxLen;omega
                case c4=>omega
                case c5=>have:=B4.out.size;simp;omega
                intro v5 w5 hown hgrow _
                have hb5:Hid (Below V.heap.size V w5):=by
                  refine (B4.out.alloc B4.out.size _).grown hgrow (by have:=B4.out.size;simp;omega) (fun z hz=>?_)
                  exact (OL2.out.lt z hz).1
                go_wp2
                exact ⟨⟨i+1,by simp,by omega,(by have e:=HSU3.out;simp only [Bool.not_false,↓reduceIte] at e;rw [e,List.length_append,List.length_singleton,Xe];exact hown),hb5⟩,by simp [intOf];omega⟩
              · go_wp2
                exact ⟨⟨i+1,by simp,by omega,(by have e:=HSU3.out;simp only [Bool.not_true,Bool.false_eq_true,↓reduceIte,List.append_nil] at e;rw [e];exact OL2),B4⟩,by simp [intOf];omega⟩
    · have e:i=n:=by omega
      subst e
      rw [List.take_of_length_le (by rw [HNL.out];exact Nat.le_refl _)] at hO
      obtain ⟨la,lc,e9⟩:=ownv hO.out
      go_wp2
      exact bodyPost_ret (results_tmp rfl _ _ _) rfl ⟨⟨_,rfl,Go.Joins.ownsRow_le hO.out BV.out.size⟩,Zc BV.out hB.out⟩
theorem rts_0 (ps:List Plc) (W:World) (b g CL cap:Nat) (am:Option Addr) (n cm:Nat) (ms:List HM) (ab:List (Int×Int)) (hab:ab=[])
    (b0:W.cell? ⟨b,0,none⟩=some (.slice (some ⟨g,0,none⟩) CL cap)) (hbl:b<W.heap.size) (hgl:g<W.heap.size) (hkI:(0:Int)<(CL:Int)) (c5:W.cell? ⟨g,5,none⟩=some (.slice am n cm)) (hn:n≤1000000) (HNL:Hid (ms.length=n))
    (HMS:Hid (∀ (j:Nat) (m:HM),ms[j]?=some m→∃ bk o,am=some ⟨bk,o,none⟩∧bk<W.heap.size∧W.cell? ⟨bk,o+j * 6+2,none⟩=some (.int .i64 m.fl)))
    (HV:Hid (∀ (j:Nat) (m:HM),ms[j]?=some m→∀ w,Below W.heap.size W w→Calls Tryz.prog 36 #[.pointer (some ⟨b,0,none⟩),.agg #[.int .i64 (0:Int),.int .i64 (j:Int)]] w fun e w'=>e=.returned (.bool (vrtB m.nm m.fl))∧Below w.heap.size w w'))
    (HO:Hid (∀ (j:Nat) (m:HM),ms[j]?=some m→∀ R∈ab,∀ w,Below W.heap.size W w→Calls Tryz.prog 54 #[.pointer (some ⟨b,0,none⟩),.agg #[.int .i64 (0:Int),.int .i64 (j:Int)],.agg #[.int .i64 R.1,.int .i64 R.2]] w fun e w'=>(∃ E:Int,e=.returned (.tuple #[.bool (ovrI ps ((0:Int),(j:Int)) R).1,.int .i64 E]))∧Below w.heap.size w w')) :
    Calls Tryz.prog 27 #[.pointer (some ⟨b,0,none⟩),.int .i64 (0:Int)] W fun e w'=>(∃ v,e=.returned v∧w'.ownsRow W.heap.size 39 2 v (ab++addD ps 0 ab ms 0).length (Zm (ab++addD ps 0 ab ms 0)))∧Below W.heap.size W w':=by
  obtain ⟨i0,hi0,hz0,hz1,hz2⟩:=info_parts Tryz.hinfoD
  have B0:Hid (W.cell? ⟨b,0,none⟩=some (.slice (some ⟨g,0,none⟩) CL cap)):=b0
  have C5:Hid (W.cell? ⟨g,5,none⟩=some (.slice am n cm)):=c5
  go_enter Tryz.func27,Tryz.ntmps27
  have HAL:Hid (ab.length=0):=by rw [hab];exact rfl
  have RAB:Hid (Rds W (.slice none 0 0) 0 2 (Zm ab)):=by rw [hab];exact ⟨rfl,.inl ⟨rfl,rfl⟩⟩
  have BV:Hid (Below W.heap.size W W):=Below.refl _ _
  have hA:0≤300000000:=by decide
  clear hab
  go_wp2_with (at_builtin;refine Yk rfl _ _ 60 rfl W.heap.size 39 i0 (.agg #[.int .i64 0,.int .i64 0]) 2 16 Tryz.underlying60 hi0 hz0 hz1 hz2 rfl (by decide) (.slice (some ⟨W.heap.size,0,none⟩) 0 0) 0 [] rfl (Qa _ _ (by simp) _ _ _ (by simp)) (.slice none 0 0) 0 (Zm ab) rfl (.inl (RAB.out.keep ((Below.refl _ _).alloc (Nat.le_refl _) _))) ?c0 ?c1 ?c2 ?c3 ?_)
  case c0=>exact Zfw ab
  case c1=>unfold maxLen;omega
  case c2=>omega
  case c3=>simp
  intro v' w1 hown hgrow
  have hB1:Below W.heap.size W w1:=by
    refine Below.grown (w:=W.alloc (.cells #[] 39)) ((Below.refl _ W).alloc (Nat.le_refl _) _) hgrow (by simp) (fun x hx=>?_)
    cases hx
    exact Nat.le_refl _
  (try rw [Nat.zero_add] at hown)
  (try rw [List.nil_append] at hown)
  have OL:Hid (w1.ownsRow W.heap.size 39 2 v' (ab++addD ps 0 ab (ms.take 0) 0).length (Zm (ab++addD ps 0 ab (ms.take 0) 0))):=by
    rw [List.take_zero,addD,List.append_nil,HAL.out]
    exact hown
  have OB1:Hid (Below W.heap.size W w1):=hB1
  clear hown hgrow hB1
  go_wp2
  go_loopw [8,9] (fun sv iv wr=>∃ i:Nat,iv=.int .i64 i∧i≤n∧Hid (wr.ownsRow W.heap.size 39 2 sv (ab++addD ps 0 ab (ms.take i) 0).length (Zm (ab++addD ps 0 ab (ms.take i) 0)))∧Hid (Below W.heap.size W wr)) (fun _ iv _=>n - (intOf iv).toNat)
  case atStart=>exact ⟨0,rfl,Nat.zero_le _,OL,OB1⟩
  case round =>
    obtain ⟨i,rfl,hi,hO,hB⟩:=hrel
    clear OL OB1 b0 c5
    have bW:Below W.heap.size W wr:=Zc BV.out hB.out
    have b0:wr.cell? ⟨b,0,none⟩=some (.slice (some ⟨g,0,none⟩) CL cap):=(bW.cell (p:=⟨b,0,none⟩) hbl).trans B0.out
    have c5:wr.cell? ⟨g,5,none⟩=some (.slice am n cm):=(bW.cell (p:=⟨g,5,none⟩) hgl).trans C5.out
    have hbr:b<wr.heap.size:=Nat.lt_of_lt_of_le hbl bW.size
    have hgr:g<wr.heap.size:=Nat.lt_of_lt_of_le hgl bW.size
    by_cases hlt:i<n
    · have hiI:(i:Int)<(n:Int):=by omega
      obtain ⟨m,hm⟩:∃ m,ms[i]?=some m:=⟨_,List.getElem?_eq_getElem (by rw [HNL.out];exact hlt)⟩
      obtain ⟨bk,o,rfl,hbk,hfl⟩:=HMS.out i m hm
      have hbkr:bk<wr.heap.size:=Nat.lt_of_lt_of_le hbk bW.size
      have HST:Hid ((ab++addD ps 0 ab (ms.take (i+1)) 0)=(ab++addD ps 0 ab (ms.take i) 0)++(if vrtB m.nm m.fl&&!(opnB m.fl&&ab.any fun R=>(ovrI ps ((0:Int),(i:Int)) R).1) then [((0:Int),(i:Int))] else [])):=by
        show _=_
        rw [List.take_add_one,hm,Option.toList_some,Zb0,List.append_assoc,List.length_take,Nat.min_eq_left (by rw [HNL.out];omega),Nat.zero_add]
        all_goals rfl
      have hll:(ab++addD ps 0 ab (ms.take i) 0).length≤400000000:=by
        have h1:=Zej ps 0 ab (ms.take i) 0
        rw [List.length_take] at h1
        rw [List.length_append,HAL.out]
        omega
      obtain ⟨LS,hLS⟩:∃ LS,(ab++addD ps 0 ab (ms.take i) 0)=LS:=⟨_,rfl⟩
      rw [hLS] at hO HST hll
      obtain ⟨la,lc,rfl⟩:=ownv hO.out
      have HVi:Hid (∀ w,Below W.heap.size W w→Calls Tryz.prog 36 #[.pointer (some ⟨b,0,none⟩),.agg #[.int .i64 (0:Int),.int .i64 (i:Int)]] w fun e w'=>e=.returned (.bool (vrtB m.nm m.fl))∧Below w.heap.size w w'):=HV.out i m hm
      have HOi:Hid (∀ R∈ab,∀ w,Below W.heap.size W w→Calls Tryz.prog 54 #[.pointer (some ⟨b,0,none⟩),.agg #[.int .i64 (0:Int),.int .i64 (i:Int)],.agg #[.int .i64 R.1,.int .i64 R.2]] w fun e w'=>(∃ E:Int,e=.returned (.tuple #[.bool (ovrI ps ((0:Int),(i:Int)) R).1,.int .i64 E]))∧Below w.heap.size w w'):=HO.out i m hm
      have HFL:Hid (W.cell? ⟨bk,o+i * 6+2,none⟩=some (.int .i64 m.fl)):=hfl
      have H1:Hid (∀ w:World,Calls Tryz.prog 46 #[.int .i64 m.fl,.int .i64 1] w fun e w'=>e=.returned (.bool (hasI m.fl 1))∧w'=w):=Z3 m.fl 1
      have H4:Hid (∀ w:World,Calls Tryz.prog 46 #[.int .i64 m.fl,.int .i64 4] w fun e w'=>e=.returned (.bool (hasI m.fl 4))∧w'=w):=Z3 m.fl 4
      rw [Zks] at HST
      clear hLS hm hfl
      generalize vrtB m.nm m.fl=vb at *
      generalize hasI m.fl 1=h1 at *
      generalize hasI m.fl 4=h4 at *
      obtain ⟨MF,hMF⟩:∃ MF,m.fl=MF:=⟨_,rfl⟩
      rw [hMF] at HFL H1 H4
      clear hMF
      cases vb
      · go_wp2_with (go_at_call 36;refine (HVi.out _ (Zc BV.out (sqE hB))).mono ?_;rintro e w2 ⟨rfl,hb⟩;have OL:Hid (w2.ownsRow W.heap.size 39 2 (.slice la LS.length lc) LS.length (Zm LS)):=Za (hO.out.alloc _) hb;have B2:Hid (Below W.heap.size W w2):=Zc (sqE hB) hb;clear hb HVi)
        exact ⟨⟨i+1,by simp,by omega,(by have e:=HST.out;simp only [Bool.false_and,Bool.false_eq_true,↓reduceIte,List.append_nil] at e;rw [e];exact OL),B2⟩,by simp [intOf];omega⟩
      · go_wp2_with (go_at_call 36;refine (HVi.out _ (Zc BV.out (sqE hB))).mono ?_;rintro e w2 ⟨rfl,hb⟩;have mmd:=kp2 (n:=wr.heap.size) hb (by first|omega|(simp;try omega)) (Zl _ _);(try clear mmB mm0 mm1 mmf mmL mmN);obtain ⟨mmB,mm0,mm1,mmf,mmL,mmN⟩:=mmd;have OL:Hid (w2.ownsRow W.heap.size 39 2 (.slice la LS.length lc) LS.length (Zm LS)):=Za (hO.out.alloc _) hb;have B2:Hid (Below W.heap.size W w2):=Zc (sqE hB) hb;have bW2:Below W.heap.size W w2:=Zc BV.out B2.out;clear b0 c5;have b0:w2.cell? ⟨b,0,none⟩=some (.slice (some ⟨g,0,none⟩) CL cap):=(bW2.cell (p:=⟨b,0,none⟩) hbl).trans B0.out;have c5:w2.cell? ⟨g,5,none⟩=some (.slice (some ⟨bk,o,none⟩) n cm):=(bW2.cell (p:=⟨g,5,none⟩) hgl).trans C5.out;have fl2:w2.cell? ⟨bk,o+i * 6+2,none⟩=some (.int .i64 MF):=(bW2.cell (p:=⟨bk,o+i * 6+2,none⟩) hbk).trans HFL.out;have BW2:Hid (Below W.heap.size W w2):=bW2;have hbr2:b<w2.heap.size:=Nat.lt_of_lt_of_le hbl bW2.size;have hgr2:g<w2.heap.size:=Nat.lt_of_lt_of_le hgl bW2.size;have hbk2:bk<w2.heap.size:=Nat.lt_of_lt_of_le hbk bW2.size;have MB:Hid (w2.heap[wr.heap.size]?=some (.cells #[.int .i64 (0:Int),.int .i64 (i:Int)] 39 (0,0))):=mmB.out;clear hb HVi bW2)
        cases h1
        case' false=>cases h4
        case false.false =>
          go_wp2_with (first|(go_at_call 46;refine (H1.out _).mono ?_;rintro e w9 ⟨rfl,hw9⟩;rw [hw9];clear hw9 w9 H1)|(go_at_call 46;refine (H4.out _).mono ?_;rintro e w9 ⟨rfl,hw9⟩;rw [hw9];clear hw9 w9 H4)|(at_builtin;refine wpList_append_own _ rfl _ _ 60 rfl W.heap.size 39 i0 (.agg #[.int .i64 0,.int .i64 0]) 2 16 Tryz.underlying60 hi0 hz0 hz1 hz2 rfl (by decide) (.slice la LS.length lc) LS.length (Zm LS) rfl (OL.out.alloc _) ⟨w2.heap.size,0,none⟩ 1 1 [.int .i64 (0:Int),.int .i64 (i:Int)] rfl rfl ?c1 ?c2 ?c3 ?c4 ?c5 ?_))
          case c1=>exact World.news_of_block (cs:=#[.int .i64 (0:Int),.int .i64 (i:Int)]) (Zl _ _)
          case c2=>intro u hu;simp at hu;rcases hu with rfl|rfl <;> rfl
          case c3=>unfold maxLen;omega
          case c4=>omega
          case c5=>have:=B2.out.size;simp;omega
          intro v5 w5 hown hgrow _
          have hb5:Hid (Below W.heap.size W w5):=by
            refine (B2.out.alloc B2.out.size _).grown hgrow (by have:=B2.out.size;simp;omega) (fun z hz=>?_)
            exact (OL.out.lt z hz).1
          go_wp2
          exact ⟨⟨i+1,by simp,by omega,(by have e:=HST.out;simp only [Bool.or_self,Bool.false_and,Bool.not_false,Bool.and_self,↓reduceIte] at e;rw [e,List.length_append,List.length_singleton,Xe];exact hown),hb5⟩,by simp [intOf];omega⟩
        all_goals
          have HSU:Hid ((ab++addD ps 0 ab (ms.take (i+1)) 0)=LS++(if !(ab.any fun R=>(ovrI ps ((0:Int),(i:Int)) R).1) then [((0:Int),(i:Int))] else [])):=(by have e:=HST.out;simp only [Bool.true_and,Bool.or_true,Bool.true_or] at e;exact e)
          go_wp2_with (first|(go_at_call 46;refine (H1.out _).mono ?_;rintro e w9 ⟨rfl,hw9⟩;rw [hw9];clear hw9 w9 H1)|(go_at_call 46;refine (H4.out _).mono ?_;rintro e w9 ⟨rfl,hw9⟩;rw [hw9];clear hw9 w9 H4))
          clear HST b0 c5 fl2
          obtain ⟨wx,hwx⟩:∃ wx,wx=wr:=⟨_,rfl⟩
          subst hwx
          go_loopw [11,13] (fun sv jv wr=>∃ j:Nat,sv=.bool ((ab.take j).any fun R=>(ovrI ps ((0:Int),(i:Int)) R).1)∧jv=.int .i64 j∧j≤0∧Hid (Below w2.heap.size w2 wr)) (fun _ jv _=>0 - (intOf jv).toNat)
          case atStart=>exact ⟨0,rfl,rfl,Nat.zero_le _,Below.refl _ _⟩
          case round =>
            obtain ⟨j,rfl,rfl,hj,hC⟩:=hrel
            clear mmB mm0 mm1 mmf mmL mmN
            have mmL0:wx.heap.size<w2.heap.size:=(Array.getElem?_eq_some_iff.1 MB.out).1
            obtain ⟨mmB,mm0,mm1,mmf,mmL,mmN⟩:=kp2 (n:=wx.heap.size) hC.out mmL0 MB.out
            by_cases hlj:j<0
            · exact absurd hlj (Nat.not_lt_zero _)
            · have e:j=0:=by omega
              subst e
              have eT:ab.take 0=ab:=List.take_of_length_le (by rw [HAL.out];exact Nat.le_refl _)
              rw [eT]
              clear eT
              have OL2:Hid (wr.ownsRow W.heap.size 39 2 (.slice la LS.length lc) LS.length (Zm LS)):=Za OL.out hC.out
              have B4:Hid (Below W.heap.size W wr):=Zc B2.out hC.out
              clear OL B2
              have HSU2:=HSU.out
              generalize (ab.any fun R=>(ovrI ps ((0:Int),(i:Int)) R).1)=sh at HSU2 ⊢
              have HSU3:Hid _:=HSU2
              clear HSU HSU2 HOi
              cases sh
              · go_wp2_with (at_builtin;refine wpList_append_own _ rfl _ _ 60 rfl W.heap.size 39 i0 (.agg #[.int .i64 0,.int .i64 0]) 2 16 Tryz.underlying60 hi0 hz0 hz1 hz2 rfl (by decide) (.slice la LS.length lc) LS.length (Zm LS) rfl (OL2.out.alloc _) ⟨wr.heap.size,0,none⟩ 1 1 [.int .i64 (0:Int),.int .i64 (i:Int)] rfl rfl ?c1 ?c2 ?c3 ?c4 ?c5 ?_)
                case c1=>exact World.news_of_block (cs:=#[.int .i64 (0:Int),.int .i64 (i:Int)]) (Zl _ _)
                case c2=>intro u hu;simp at hu;rcases hu with rfl|rfl <;> rfl
                case c3=>unfold maxLen;omega
                case c4=>omega
                case c5=>have:=B4.out.size;simp;omega
                intro v5 w5 hown hgrow _
                have hb5:Hid (Below W.heap.size W w5):=by
                  refine (B4.out.alloc B4.out.size _).grown hgrow (by have:=B4.out.size;simp;omega) (fun z hz=>?_)
                  exact (OL2.out.lt z hz).1
                go_wp2
                exact ⟨⟨i+1,by simp,by omega,(by have e:=HSU3.out;simp only [Bool.not_false,↓reduceIte] at e;rw [e,List.length_append,List.length_singleton,Xe];exact hown),hb5⟩,by simp [intOf];omega⟩
              · go_wp2
                exact ⟨⟨i+1,by simp,by omega,(by have e:=HSU3.out;simp only [Bool.not_true,Bool.false_eq_true,↓reduceIte,List.append_nil] at e;rw [e];exact OL2),B4⟩,by simp [intOf];omega⟩
    · have e:i=n:=by omega
      subst e
      rw [List.take_of_length_le (by rw [HNL.out];exact Nat.le_refl _)] at hO
      obtain ⟨la,lc,e9⟩:=ownv hO.out
      go_wp2
      exact bodyPost_ret (results_tmp rfl _ _ _) rfl ⟨⟨_,rfl,Go.Joins.ownsRow_le hO.out BV.out.size⟩,Zc BV.out hB.out⟩
end Go.Proofs.YtjbmmmcjegjelaaGreat
