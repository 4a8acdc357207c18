import Derived.Test.YtkclpcmkplbclaaGreatApB
import Derived.Test.YtkclpcmkplbclaaGreatWdT
import Derived.Test.YtkclpcmkplbclaaGreatOwnRefs
import Derived.Test.YtkclpcmkplbclaaGreatOrdB
import Derived.Test.YtkclpcmkplbclaaGreatCurE
import Derived.Test.YtkclpcmkplbclaaGreatWdB
import Derived.Test.YtkclpcmkplbclaaGreatSoA
import Derived.Test.YtkclpcmkplbclaaGreatRfX
import Derived.Test.YtkclpcmkplbclaaGreatOwnC
import Derived.Test.YtkclpcmkplbclaaGreatLwA
import Derived.WalkSmall
import Derived.BigQuiet
set_option maxRecDepth 100000
namespace Go.Proofs.YtkclpcmkplbclaaGreat
open Go.RowKit Go.Maps
theorem stp_arr {ps:List Plc} {s:ByteArray} (h:s.toList.isEmpty=true∨s.toList=sObj):∀ d:Nat,stpP ps (d+1) s=abv3.map fun p=>((d:Int),p)
  | 0=>by rw [stpP,if_pos ⟨rfl,h⟩];rfl
  | d+1=>by
    rw [stpP,if_neg (fun e=>absurd e.1 (by omega)),stp_arr h d,List.map_map]
    apply List.map_congr_left
    intro p _
    show ((d:Int)+1,p)=(((d+1:Nat):Int),p)
    rw [Int.natCast_add];rfl
theorem stp_cls {ps:List Plc} {s:ByteArray} {k:Nat} {q:Plc} (he:s.toList.isEmpty=false) (ho:¬ s.toList=sObj) (hk:lookL ps s.data.toList=some k) (hq:ps[k]?=some q) (h0:¬ k=0) (ns:List (List UInt8)) (hns:q.c.xi=strsV ns):∀ d:Nat,stpP ps d s=[((d:Int),q.c.su.data.toList)]++ns.map fun p=>((d:Int),p)
  | 0=>by
    rw [stpP,he,stp0,hk]
    simp only [hq]
    rw [if_neg (by decide),if_neg h0,hns,txt_strs]
    rfl
  | d+1=>by
    rw [stpP,if_neg (fun e=>by rcases e.2 with e|e;rw [he] at e;cases e;exact ho e),stp_cls he ho hk hq h0 ns hns d,List.map_append,List.map_map]
    have e:((d:Int)+1)=((d+1:Nat):Int):=by rw [Int.natCast_add];rfl
    show [((d:Int)+1,q.c.su.data.toList)]++(ns.map fun p=>((d:Int)+1,p))=_
    rw [e]
theorem stp_top {ps:List Plc} (hT:TyW ps) {s:ByteArray} (he:s.toList.isEmpty=false) (hk:lookL ps s.data.toList=some 0):stpP ps 0 s=[]:=by
  rw [stpP,he,stp0,hk]
  simp only [hT.first.1]
  rfl
theorem stp_small {ps:List Plc} (hS:StW ps) {s:ByteArray} {x:Int} (hl:ldI ps x s=0):∀ d:Nat,(d:Int)≤x→(stpP ps d s).length≤100∧∀ u∈stpP ps d s,0≤u.1∧u.1≤(d:Int):=by
  intro d hd
  by_cases hE:s.toList.isEmpty=true∨s.toList=sObj
  · cases d with
    | zero =>
      rcases hE with hE|hE
      · rw [stpP,hE];exact ⟨Nat.zero_le _,fun u hu=>by cases hu⟩
      · have he:s.toList.isEmpty=false:=by rw [hE];rfl
        have hk:lookL ps s.data.toList=some 0:=by rw [← Lib.toList_data,hE];exact hS.ty.look3.1
        rw [stp_top hS.ty he hk];exact ⟨Nat.zero_le _,fun u hu=>by cases hu⟩
    | succ d =>
      rw [stp_arr hE d]
      refine ⟨by rw [List.length_map];decide,fun u hu=>?_⟩
      obtain ⟨p,_,rfl⟩:=List.mem_map.1 hu
      show 0≤(d:Int)∧(d:Int)≤((d+1:Nat):Int)
      omega
  · have he:s.toList.isEmpty=false:=by
      cases h:s.toList.isEmpty with
      | false=>rfl
      | true=>exact absurd (.inl h) hE
    have ho:¬ s.toList=sObj:=fun h=>hE (.inr h)
    obtain ⟨k,hk⟩:=(ld_facts hl).2.2 he
    obtain ⟨q,hq,_⟩:=look_place hk
    obtain ⟨names,ks,p1,p2,_⟩:=hS.wj k q hq
    have h0:¬ k=0:=fun e=>by
      subst e
      exact ho (by rw [Lib.toList_data];exact hS.ty.inj hk hS.ty.look3.1)
    rw [stp_cls he ho hk hq h0 names p1 d]
    have hni:=hS.ni q (List.mem_of_getElem? hq)
    rw [p2] at hni
    refine ⟨by simp;omega,fun u hu=>?_⟩
    rcases List.mem_append.1 hu with hu|hu
    · rw [List.mem_singleton] at hu;subst hu;show 0≤(d:Int)∧(d:Int)≤(d:Int);omega
    · obtain ⟨p,_,rfl⟩:=List.mem_map.1 hu
      show 0≤(d:Int)∧(d:Int)≤(d:Int)
      omega
theorem stp_c {b:Nat} {cs:List Cls} {ps:List Plc} (ht:TwW cs ps) (hS:StW ps) (s:ByteArray) (x:Int) (hl:ldI ps x s=0):∀ (d:Nat),(d:Int)≤x→∀ W:World,RAt b cs W→Calls Tryz.prog 112 #[.pointer (some ⟨b,0,none⟩),.agg #[.int .i64 (d:Int),.string s]] W fun e w'=>(∃ v,e=.returned v∧w'.ownsRow W.heap.size 24 2 v (stpP ps d s).length (flatU (stpP ps d s)))∧Below W.heap.size W w':=by
  intro d
  induction d with
  | zero =>
    intro hd W h
    cases he:s.toList.isEmpty with
    | true =>
      have e0:stpP ps 0 s=[]:=by rw [stpP,he];rfl
      rw [e0]
      exact stp_1 W b s (fun w=>(rIsInt_c 0 s w).mono fun e w' zz=>⟨by rw [zz.1,intB,he];rfl,zz.2⟩)
    | false =>
      obtain ⟨k,hk⟩:=(ld_facts hl).2.2 he
      obtain ⟨q,hq,_⟩:=look_place hk
      obtain ⟨c,hc,hqc⟩:=ht.tw.at' hq
      obtain ⟨g,cap,vi,vm,b0,hbl,hgl,c0,c1,c2,c3,c4,c5,hst,hmt⟩:=h.cells hc
      obtain ⟨ai,ci,rfl,_,_,hcs⟩:=hst
      obtain ⟨am,cm,rfl⟩:=mths_slice hmt
      have hkl:=(List.getElem?_eq_some_iff.1 hc).1
      have hni:=hS.ni q (List.mem_of_getElem? hq)
      have e1:q.c.ni=c.ifs.length:=by rw [hqc];rfl
      have e2:q.c.xi=strsV c.ifs:=by rw [hqc];rfl
      have e3:q.c.su=c.su:=by rw [hqc];rfl
      rw [e1] at hni
      have HI:∀ w,Calls Tryz.prog 107 #[.agg #[.int .i64 0,.string s]] w fun e w'=>e=.returned (.bool false)∧Below w.heap.size w w':=fun w=>(rIsInt_c 0 s w).mono fun e w' zz=>⟨by rw [zz.1,intB,he];rfl,zz.2⟩
      have HBN:∀ w,Below W.heap.size W w→Calls Tryz.prog 57 #[.pointer (some ⟨b,0,none⟩),.string s] w fun e w'=>e=.returned (.tuple #[.int .i64 (k:Int),.int .i64 0])∧w'=w:=fun w hb=>rByName_t (h.below hb) ht s k hk
      by_cases h0:k=0
      · have e0:stpP ps 0 s=[]++c.ifs.map fun p=>((0:Int),p):=by
          rw [stpP,he,stp0,hk]
          simp only [hq]
          rw [if_neg (by decide),if_pos h0,e2,txt_strs]
        rw [e0]
        have hlen:([]++c.ifs.map fun p=>((0:Int),p)).length=c.ifs.length:=by simp
        rw [hlen]
        exact stp_2 W b k cs.length s c g cap ai c.ifs.length ci am c.ms.length cm (by omega) rfl hkl hbl hgl b0 c0 c1 c2 c3 c4 c5 hcs HI HBN h0
      · have e0:stpP ps 0 s=[((0:Int),c.su.data.toList)]++c.ifs.map fun p=>((0:Int),p):=by
          rw [stpP,he,stp0,hk]
          simp only [hq]
          rw [if_neg (by decide),if_neg h0,e2,txt_strs,e3]
        rw [e0]
        have hlen:([((0:Int),c.su.data.toList)]++c.ifs.map fun p=>((0:Int),p)).length=c.ifs.length+1:=by simp
        rw [hlen]
        exact stp_3 W b k cs.length s c g cap ai c.ifs.length ci am c.ms.length cm (by omega) rfl hkl hbl hgl b0 c0 c1 c2 c3 c4 c5 hcs HI HBN h0
  | succ d ih =>
    intro hd W h
    have hx:=(ld_facts hl).2.1
    have ec:((d+1:Nat):Int)=(d:Int)+1:=by rw [Int.natCast_add];rfl
    have HI1:∀ z w,z=(d:Int)+1→Calls Tryz.prog 107 #[.agg #[.int .i64 z,.string s]] w fun e w'=>e=.returned (.bool false)∧Below w.heap.size w w':=fun z w hz=>by
      rw [hz]
      refine (rIsInt_c _ s w).mono fun e w' zz=>⟨?_,zz.2⟩
      have:((d:Int)+1 == 0)=false:=by rw [← Bool.not_eq_true,beq_iff_eq];omega
      rw [zz.1,intB,this,Bool.false_and]
    have HI2:∀ z w,z=(d:Int)→Calls Tryz.prog 107 #[.agg #[.int .i64 z,.string s]] w fun e w'=>e=.returned (.bool (intB (d:Int) s))∧Below w.heap.size w w':=fun z w hz=>by rw [hz];exact rIsInt_c _ s w
    have HLO:∀ w,Calls Tryz.prog 146 #[.agg #[.int .i64 ((d:Int)+1),.string s]] w fun e w'=>e=.returned (.agg #[.int .i64 (d:Int),.string s])∧Below w.heap.size w w':=fun w=>by rw [← ec];exact rLower_c d (by omega) s w
    have HRE:=fun w (hb:Below W.heap.size W w)=>ih (by omega) w (h.below hb)
    obtain ⟨s1,s2⟩:=stp_small hS hl d (by omega)
    have hlen:((stpP ps d s).map fun u=>(u.1+1,u.2)).length=(stpP ps d s).length:=List.length_map _
    rw [ec]
    by_cases h0:d=0
    · cases he:s.toList.isEmpty with
      | true =>
        have e0:stpP ps (d+1) s=abv3.map fun p=>((0:Int),p):=by rw [stpP,if_pos ⟨h0,.inl he⟩]
        have ei:intB (d:Int) s=true:=by rw [intB,he,h0];rfl
        rw [ei] at HI2
        rw [e0]
        exact stp_4 W b d s HI1 HLO HI2
      | false =>
        have ei:intB (d:Int) s=false:=by rw [intB,he,Bool.and_false]
        rw [ei] at HI2
        by_cases ho:s.toList=sObj
        · have e0:stpP ps (d+1) s=abv3.map fun p=>((0:Int),p):=by rw [stpP,if_pos ⟨h0,.inr ho⟩]
          rw [e0]
          exact stp_4o W b d s h0 (eqB (by rw [ho,Lib.toList_data];rfl)) HI1 HLO HI2
        · have e0:stpP ps (d+1) s=(stpP ps d s).map fun u=>(u.1+1,u.2):=by rw [stpP,if_neg (fun e=>by rcases e.2 with e|e;rw [he] at e;cases e;exact ho e)]
          rw [e0,hlen]
          exact stp_5b W b d _ s (stpP ps d s) (by omega) rfl (fun u hu=>by have:=s2 u hu;omega) h0 ho HI1 HLO HI2 HRE
    · have ei:intB (d:Int) s=false:=by
        have:((d:Int) == 0)=false:=by rw [← Bool.not_eq_true,beq_iff_eq];omega
        rw [intB,this,Bool.false_and]
      rw [ei] at HI2
      have e0:stpP ps (d+1) s=(stpP ps d s).map fun u=>(u.1+1,u.2):=by rw [stpP,if_neg (fun e=>h0 e.1)]
      rw [e0,hlen]
      exact stp_5a W b d _ s (stpP ps d s) (by omega) rfl (fun u hu=>by have:=s2 u hu;omega) h0 HI1 HLO HI2 HRE
def abvR (ps:List Plc) (x:Int) (s:ByteArray):List (Int×List UInt8)×Int:=if ldI ps x s=0 then (stpP ps x.toNat s,0) else ([],ldI ps x s)
theorem rAbv_c {b:Nat} {cs:List Cls} {ps:List Plc} {W:World} (h:RAt b cs W) (ht:TwW cs ps) (hS:StW ps) (x:Int) (s:ByteArray) (hs:s.size≤maxLen):Calls Tryz.prog 69 #[.pointer (some ⟨b,0,none⟩),.agg #[.int .i64 x,.string s]] W fun e w'=>(∃ v,e=.returned (.tuple #[v,.int .i64 (abvR ps x s).2])∧w'.ownsRow W.heap.size 24 2 v (abvR ps x s).1.length (flatU (abvR ps x s).1))∧Below W.heap.size W w':=by
  have HL:Hid (∀ w,Below W.heap.size W w→Calls Tryz.prog 106 #[.pointer (some ⟨b,0,none⟩),.agg #[.int .i64 x,.string s]] w fun e w'=>e=.returned (.int .i64 (ldI ps x s))∧Below w.heap.size w w'):=fun w hb=>by
    rw [← ldC_eq ht];exact rLoaded_c (h.below hb) (by rw [ht.tw.len];exact ht.wi.hi) x s hs
  by_cases hl:ldI ps x s=0
  · have e0:abvR ps x s=(stpP ps x.toNat s,0):=by rw [abvR,if_pos hl]
    rw [e0]
    have hx:=(ld_facts hl).1
    have HS:Hid (∀ w,Below W.heap.size W w→Calls Tryz.prog 112 #[.pointer (some ⟨b,0,none⟩),.agg #[.int .i64 x,.string s]] w fun e w'=>(∃ v,e=.returned v∧w'.ownsRow w.heap.size 24 2 v (stpP ps x.toNat s).length (flatU (stpP ps x.toNat s)))∧Below w.heap.size w w'):=fun w hb=>by
      have:=stp_c ht hS s x hl x.toNat (by omega) w (h.below hb)
      rw [show ((x.toNat:Nat):Int)=x by omega] at this
      exact this
    rw [hl] at HL
    generalize stpP ps x.toNat s=us at *
    clear h ht hS hl hs e0 hx
    obtain ⟨n,hn⟩:∃ n,us.length=n:=⟨_,rfl⟩
    simp only [hn] at HS ⊢
    clear hn
    go_enter Tryz.func69,Tryz.ntmps69
    go_wp2_with (first
      | (go_at_call 106;refine (HL.out _ (by repeat (first|exact Below.refl _ _|refine Below.setCell ?_ (by simp;try omega) _|refine Below.alloc ?_ (by simp;try omega) _|refine Below.drew ?_))).mono ?_;rintro e w1 ⟨rfl,hb⟩;have ssd:=kp2 (n:=W.heap.size) hb (by simp) (halloc1 _ _);obtain ⟨ssB,ss0,ss1,ssf,ssL,ssN⟩:=ssd;have B1:Hid (Below W.heap.size W w1):=bstep (by repeat (first|exact Below.refl _ _|refine Below.setCell ?_ (by simp;try omega) _|refine Below.alloc ?_ (by simp;try omega) _|refine Below.drew ?_)) hb;clear hb HL)
      | (go_at_call 112;refine (HS.out _ B1.out).mono ?_;rintro e w2 ⟨⟨v,rfl,ho⟩,hb⟩;obtain ⟨a2,c2,rfl⟩:=ownv ho;have O2:Hid (w2.ownsRow W.heap.size 24 2 (.slice a2 n c2) n (flatU us)):=Go.Joins.ownsRow_le ho B1.out.size;have B2:Hid (Below W.heap.size W w2):=bstep B1.out hb;clear hb ho HS))
    exact bodyPost_ret (results_tmp2 rfl _ _ _) rfl ⟨⟨_,rfl,O2.out⟩,B2.out⟩
  · have e0:abvR ps x s=([],ldI ps x s):=by rw [abvR,if_neg hl]
    rw [e0]
    generalize ldI ps x s=E at *
    have hE:(E == 0)=false:=by simp [hl]
    clear h ht hS hs e0
    go_enter Tryz.func69,Tryz.ntmps69
    go_wp2_with (go_at_call 106;refine (HL.out _ (by repeat (first|exact Below.refl _ _|refine Below.setCell ?_ (by simp;try omega) _|refine Below.alloc ?_ (by simp;try omega) _|refine Below.drew ?_))).mono ?_;rintro e w1 ⟨rfl,hb⟩;have B1:Hid (Below W.heap.size W w1):=bstep (by repeat (first|exact Below.refl _ _|refine Below.setCell ?_ (by simp;try omega) _|refine Below.alloc ?_ (by simp;try omega) _|refine Below.drew ?_)) hb;clear hb HL)
    exact bodyPost_ret (results_tmp2 rfl _ _ _) rfl ⟨⟨_,rfl,World.ownsRow_nil _ _ _ _⟩,B1.out⟩
theorem abv_no {b:Nat} {ps:List Plc} {W:World} (h:WAt b ps W) (x:Int) (s:ByteArray) (hs:s.size≤maxLen) (hl:¬ ldI ps x s=0):Calls Tryz.prog 68 #[.pointer (some ⟨b,0,none⟩),.agg #[.int .i64 x,.string s]] W fun e w'=>e=.returned (.tuple #[.slice none 0 0,.int .i64 (ldI ps x s)])∧Below W.heap.size W w':=by
  have HL:Hid (∀ w,Below W.heap.size W w→Calls Tryz.prog 71 #[.pointer (some ⟨b,0,none⟩),.agg #[.int .i64 x,.string s]] w fun e w'=>e=.returned (.int .i64 (ldI ps x s))∧Below w.heap.size w w'):=fun w hb=>loaded_c (h.below hb) x s hs
  generalize ldI ps x s=E at *
  have hE:(E == 0)=false:=by simp [hl]
  clear h hs
  go_enter Tryz.func68,Tryz.ntmps68
  go_wp2_with (go_at_call 71;refine (HL.out _ (by repeat (first|exact Below.refl _ _|refine Below.setCell ?_ (by simp;try omega) _|refine Below.alloc ?_ (by simp;try omega) _|refine Below.drew ?_))).mono ?_;rintro e w1 ⟨rfl,hb⟩;have B1:Hid (Below W.heap.size W w1):=bstep (by repeat (first|exact Below.refl _ _|refine Below.setCell ?_ (by simp;try omega) _|refine Below.alloc ?_ (by simp;try omega) _|refine Below.drew ?_)) hb;clear hb HL)
  exact bodyPost_ret (results_tmp2 rfl _ _ _) rfl ⟨rfl,B1.out⟩
theorem abv_c {b:Nat} {ps:List Plc} {W:World} (h:WAt b ps W) (hS:StW ps) (x:Int) (s:ByteArray) (hs:s.size≤maxLen):Calls Tryz.prog 68 #[.pointer (some ⟨b,0,none⟩),.agg #[.int .i64 x,.string s]] W fun e w'=>(∃ v,e=.returned (.tuple #[v,.int .i64 (abvR ps x s).2])∧w'.ownsRow W.heap.size 24 2 v (abvR ps x s).1.length (flatU (abvR ps x s).1))∧Below W.heap.size W w':=by
  by_cases hl:ldI ps x s=0
  · have e0:abvR ps x s=(stpP ps x.toNat s,0):=by rw [abvR,if_pos hl]
    rw [e0]
    obtain ⟨x0,x1,xk⟩:=ld_facts hl
    obtain ⟨d,rfl⟩:∃ d:Nat,x=(d:Int):=⟨x.toNat,by omega⟩
    rw [Int.toNat_natCast]
    cases hn:intB (d:Int) s with
    | true =>
      have hd:d=0∧s.toList.isEmpty=true:=by
        rw [intB,Bool.and_eq_true,beq_iff_eq] at hn
        exact ⟨by omega,hn.2⟩
      obtain ⟨rfl,he⟩:=hd
      have e1:stpP ps 0 s=[]:=by rw [stpP,he];rfl
      rw [e1]
      exact above_int h _ s hs hl hn
    | false =>
      by_cases hc:0<d∧(s.toList.isEmpty=true∨s.toList=sObj)
      · obtain ⟨d1,rfl⟩:∃ d1,d=d1+1:=⟨d - 1,by omega⟩
        rw [stp_arr hc.2 d1,List.length_map]
        have:=above_arr h ((d1+1:Nat):Int) s hs hl hn hc.2 (by omega) x1
        rw [show ((d1+1:Nat):Int) - 1=(d1:Int) by omega] at this
        exact this
      · have he:s.toList.isEmpty=false:=by
          cases he:s.toList.isEmpty with
          | false=>rfl
          | true =>
            exfalso
            by_cases hx:0<d
            · exact hc ⟨hx,.inl he⟩
            · have e0:d=0:=by omega
              rw [intB,he,e0] at hn
              exact absurd hn (by decide)
        have hc2:¬ (0<(d:Int)∧s.toList=sObj):=fun h=>hc ⟨by omega,.inr h.2⟩
        obtain ⟨k,hk⟩:=xk he
        obtain ⟨q,hq,hnm⟩:=look_place hk
        have hqm:=List.mem_of_getElem? hq
        have hB:=hS.ty.wi.pb q hqm
        obtain ⟨names,ks,p1,p2,p3,p4,p5,p6,p7⟩:=hS.wj k q hq
        have hni:=hS.ni q hqm
        by_cases h0:0<k
        · have hsu:=(hS.su k q h0 hq).2
          have ho:¬ s.toList=sObj:=fun e=>by
            have e1:lookL ps s.data.toList=some 0:=by rw [← Lib.toList_data,e];exact hS.ty.look3.1
            rw [hk] at e1
            have:=Option.some.inj e1
            omega
          rw [stp_cls he ho hk hq (by omega) names p1 d]
          have:=above_cls h (d:Int) s hs hl hn he hc2 k q hk hq hB names p2 p1 (by omega) hsu
          have hlen:([((d:Int),q.c.su.data.toList)]++names.map fun p=>((d:Int),p)).length=names.length+1:=by simp
          rw [hlen]
          exact this
        · obtain rfl:k=0:=by omega
          have hq0:=hS.ty.first.1
          rw [hq] at hq0
          cases hq0
          have hob:s.toList=sObj:=by
            rw [Lib.toList_data];exact hS.ty.inj hk hS.ty.look3.1
          have hx0:¬ 0<(d:Int):=fun hx=>hc2 ⟨hx,hob⟩
          obtain rfl:d=0:=by omega
          have hnn:names=[]:=List.length_eq_zero_iff.1 p2.symm
          rw [stp_top hS.ty he hk]
          exact above_top h _ s hs hl hn he hc2 0 _ hk hq hB names p2 p1 (by rw [hnn];decide) (by rw [Lib.toList_data];rfl) hnn hx0
  · have e0:abvR ps x s=([],ldI ps x s):=by rw [abvR,if_neg hl]
    rw [e0]
    exact (abv_no h x s hs hl).mono fun e w' zz=>⟨⟨_,zz.1,World.ownsRow_nil _ _ _ _⟩,zz.2⟩
theorem own_kb {w w':World} {N e s n:Nat} {v:Value} {xs:List Value} (h:w.ownsRow N e s v n xs) (hb:Below w.heap.size w w'):w'.ownsRow N e s v n xs:=by
  refine ⟨h.1,?_⟩
  rcases h.2 with h1|⟨g,cap,cur,h1,h2,h3,h4⟩
  · exact .inl h1
  · exact .inr ⟨g,cap,cur,h1,h2,(hb.block g (Array.getElem?_eq_some_iff.1 h3).1).trans h3,h4⟩
theorem awake7_c (W:World):Calls Tryz.prog 61 #[] W fun e w'=>e=.returned (.bool true)∧Below W.heap.size W w':=by
  have HN:Hid (∀ w:World,Calls Tryz.prog 38 #[] w fun e w'=>e=.returned (.pointer (some ⟨w.heap.size+1,0,none⟩))∧(∃ vp pv,HW w' w.heap.size (w.heap.size+1) w.heap.size P3 vp pv)∧Below w.heap.size w w'):=new_any
  have HO:Hid (∀ (w:World) (b:Nat),WAt b P3 w→Calls Tryz.prog 23 #[.pointer (some ⟨b,0,none⟩),.agg #[.int .i64 1,.string ⟨#[]⟩],.agg #[.int .i64 0,.string tClo]] w fun e w'=>e=.returned (.tuple #[.bool true,.int .i64 0])∧Below w.heap.size w w'):=fun w b h=>by
    have l1:ldI P3 1 ⟨#[]⟩=0:=by unfold ldI;rw [Lib.toList_data];rfl
    have l2:ldI P3 0 tClo=0:=by unfold ldI;rw [Lib.toList_data];rfl
    have e:suI P3 1 ⟨#[]⟩ 0 tClo=.tuple #[.bool true,.int .i64 0]:=by
      rw [suI,if_pos l1,if_pos l2,(sub_iff l1 l2).2 (.inr (.inl ⟨by rw [Lib.toList_data];rfl,by decide,by decide⟩))]
    rw [← e]
    exact sub_c h wi3 1 ⟨#[]⟩ 0 tClo (by decide) (by decide)
  have ht:tClo=⟨#[67,108,111,110,101,97,98,108,101]⟩:=rfl
  rw [ht] at HO
  clear ht
  go_enter Tryz.func61,Tryz.ntmps61
  go_wp2_with (first
    | (go_at_call 38;refine (HN.out _).mono ?_;rintro e w1 ⟨rfl,⟨vp,pv,hw⟩,hb⟩;have H1:Hid (WAt (W.heap.size+1) P3 w1):=hw.wat;have B1:Hid (Below W.heap.size W w1):=hb;clear hw hb HN)
    | (go_at_call 23;refine (HO.out _ _ H1.out).mono ?_;rintro e w2 ⟨rfl,hb⟩;have B2:Hid (Below W.heap.size W w2):=bstep B1.out hb;clear hb HO))
  exact bodyPost_ret (results_tmp rfl _ _ _) rfl ⟨rfl,B2.out⟩
theorem nil_ld (W:World) (d:Int) (s:ByteArray):Calls Tryz.prog 71 #[.pointer none,.agg #[.int .i64 d,.string s]] W fun e w'=>e=.returned (.int .i64 2)∧Below W.heap.size W w':=by
  go_enter Tryz.func71,Tryz.ntmps71
  go_wp2
  exact bodyPost_ret (results_tmp rfl _ _ _) rfl ⟨rfl,(by repeat (first|exact Below.refl _ _|refine Below.setCell ?_ (by simp;try omega) _|refine Below.alloc ?_ (by simp;try omega) _|refine Below.drew ?_))⟩
theorem nil_sub (W:World) (d:Int) (s:ByteArray) (x:Int) (t:ByteArray):Calls Tryz.prog 23 #[.pointer none,.agg #[.int .i64 d,.string s],.agg #[.int .i64 x,.string t]] W fun e w'=>e=.returned (.tuple #[.bool false,.int .i64 2])∧Below W.heap.size W w':=by
  have HL:Hid (∀ w:World,Calls Tryz.prog 71 #[.pointer none,.agg #[.int .i64 d,.string s]] w fun e w'=>e=.returned (.int .i64 2)∧Below w.heap.size w w'):=fun w=>nil_ld w d s
  go_enter Tryz.func23,Tryz.ntmps23
  go_wp2_with (go_at_call 71;refine (HL.out _).mono ?_;rintro e w1 ⟨rfl,hb⟩;have B1:Hid (Below W.heap.size W w1):=bstep (by repeat (first|exact Below.refl _ _|refine Below.setCell ?_ (by simp;try omega) _|refine Below.alloc ?_ (by simp;try omega) _|refine Below.drew ?_)) hb;clear hb HL)
  exact bodyPost_ret (results_tmp2 rfl _ _ _) rfl ⟨rfl,B1.out⟩
theorem nil_abv (W:World) (d:Int) (s:ByteArray):Calls Tryz.prog 68 #[.pointer none,.agg #[.int .i64 d,.string s]] W fun e w'=>e=.returned (.tuple #[.slice none 0 0,.int .i64 2])∧Below W.heap.size W w':=by
  have HL:Hid (∀ w:World,Calls Tryz.prog 71 #[.pointer none,.agg #[.int .i64 d,.string s]] w fun e w'=>e=.returned (.int .i64 2)∧Below w.heap.size w w'):=fun w=>nil_ld w d s
  go_enter Tryz.func68,Tryz.ntmps68
  go_wp2_with (go_at_call 71;refine (HL.out _).mono ?_;rintro e w1 ⟨rfl,hb⟩;have B1:Hid (Below W.heap.size W w1):=bstep (by repeat (first|exact Below.refl _ _|refine Below.setCell ?_ (by simp;try omega) _|refine Below.alloc ?_ (by simp;try omega) _|refine Below.drew ?_)) hb;clear hb HL)
  exact bodyPost_ret (results_tmp2 rfl _ _ _) rfl ⟨rfl,B1.out⟩
theorem nil_hld (W:World) (d:Int) (s:ByteArray):Calls Tryz.prog 66 #[.pointer none,.agg #[.int .i64 d,.string s]] W fun e w'=>e=.returned (.tuple #[.int .i64 0,.int .i64 2])∧Below W.heap.size W w':=by
  have HL:Hid (∀ w:World,Calls Tryz.prog 71 #[.pointer none,.agg #[.int .i64 d,.string s]] w fun e w'=>e=.returned (.int .i64 2)∧Below w.heap.size w w'):=fun w=>nil_ld w d s
  go_enter Tryz.func66,Tryz.ntmps66
  go_wp2_with (go_at_call 71;refine (HL.out _).mono ?_;rintro e w1 ⟨rfl,hb⟩;have B1:Hid (Below W.heap.size W w1):=bstep (by repeat (first|exact Below.refl _ _|refine Below.setCell ?_ (by simp;try omega) _|refine Below.alloc ?_ (by simp;try omega) _|refine Below.drew ?_)) hb;clear hb HL)
  exact bodyPost_ret (results_tmp2 rfl _ _ _) rfl ⟨rfl,B1.out⟩
theorem nil_tof (W:World) (x:Int):Calls Tryz.prog 63 #[.pointer none,.int .i64 x] W fun e w'=>e=.returned (.tuple #[.agg #[.int .i64 0,.string ⟨#[]⟩],.int .i64 2])∧Below W.heap.size W w':=by
  go_enter Tryz.func63,Tryz.ntmps63
  go_wp2
  exact bodyPost_ret (v:=.tuple #[.agg #[.int .i64 0,.string ⟨#[]⟩],.int .i64 2]) (by simp [results,Tryz.results63,go_sem, *]) rfl ⟨rfl,(by repeat (first|exact Below.refl _ _|refine Below.setCell ?_ (by simp;try omega) _|refine Below.alloc ?_ (by simp;try omega) _|refine Below.drew ?_))⟩
theorem step_call2k {P:Program} {ops:Array Oper} {o:Oper} {a:Act} {w:World} {K:Act→World→Prop} {Q:Exit→Act→World→Prop} {E:Prop} (hg:o.guard=none) (f:Nat) (hf:∀ (vs:Array Value) (w:World),(callFunc f vs).run P w=.ok (.enter f vs) w) (x y:Operand) (t1 t2:TypeId)
    (hop:o.op=Op.call { callee:=Callee.value (Operand.func f),args:=#[x,y],argTypes:=#[t1,t2] }) {R:Ending→World→Prop} (v1 v2:Value) (hv1:a.eval x=v1) (hv2:a.eval y=v2) (h:Calls P f #[v1,v2] w R) (hR:∀ e w',R e w'→∃ u,e=.returned u∧K (a.put o.dst u) w') :
    if Region.wanted o (yielded ops a.tmps)=true then Oper.wp P o a w K Q else E:=by
  have hw:Region.wanted o (yielded ops a.tmps)=true:=by simp [Region.wanted,hg]
  rw [if_pos hw]
  unfold Oper.wp
  have e:(execOp a.eval o).run P w=.ok (.enter f #[v1,v2]) w:=by
    simp [execOp,hop,resolve,invoke,hv1,hv2]
    simp [go_sem,hf]
  rw [e,Oper.upon_enter]
  exact h.mono (fun e w' hr=>by obtain ⟨u,rfl,hk⟩:=hR e w' hr;exact hk)
theorem callOf7 (vs:Array Value) (w:World):(callFunc 30 vs).run Tryz.prog w=.ok (.enter 30 vs) w:=by simp [go_sem]
theorem callRab (vs:Array Value) (w:World):(callFunc 69 vs).run Tryz.prog w=.ok (.enter 69 vs) w:=by simp [go_sem]
theorem own_apart {w w':World} {N e s n:Nat} {v u:Value} {xs:List Value} (h:w.ownsRow N e s v n xs) (hu:∀ k,u.ownBlock=some k→k<N) (hg:w.grownBy w' u.ownBlock):w'.ownsRow N e s v n xs:=by
  refine h.kept hg ?_
  cases ob:v.ownBlock with
  | none=>exact .inl rfl
  | some k=>exact .inr fun e1=>by have h1:=(h.lt k ob).1;have h2:=hu k e1.symm;omega
set_option maxHeartbeats 8000000 in
theorem keeps_w (ps:List Plc) (cs:List Cls) (W:World) (av:Option Addr) (nv cv:Nat) (y:Int) (r:ByteArray) (E:Int) (K:Nat) (F:List Value) (hK:K≤1000000) (HB:Hid (∀ w:World,Below W.heap.size W w→Calls Tryz.prog 62 #[.slice av nv cv] w fun e w'=>(∃ b,e=.returned (.pointer (some ⟨b,0,none⟩))∧WAt b ps w')∧Below w.heap.size w w')) (HO:Hid (∀ w:World,Below W.heap.size W w→Calls Tryz.prog 30 #[.slice av nv cv] w fun e w'=>(∃ b,e=.returned (.pointer (some ⟨b,0,none⟩))∧RAt b cs w')∧Below w.heap.size w w')) (HV:Hid (∀ b w,WAt b ps w→Calls Tryz.prog 68 #[.pointer (some ⟨b,0,none⟩),.agg #[.int .i64 y,.string r]] w fun e w'=>(∃ v,e=.returned (.tuple #[v,.int .i64 E])∧w'.ownsRow w.heap.size 24 2 v K F)∧Below w.heap.size w w')) (HX:Hid (∀ b w,RAt b cs w→Calls Tryz.prog 69 #[.pointer (some ⟨b,0,none⟩),.agg #[.int .i64 y,.string r]] w fun e w'=>(∃ v,e=.returned (.tuple #[v,.int .i64 E])∧w'.ownsRow w.heap.size 24 2 v K F)∧Below w.heap.size w w')) (HS1:Hid (∀ N1 N2 v1 v2 (w:World),w.ownsRow N1 24 2 v1 K F→w.ownsRow N2 24 2 v2 K F→Calls Tryz.prog 70 #[v1,v2] w fun e w'=>e=.returned (.bool true)∧Below w.heap.size w w')) :
    Calls Tryz.prog 14 #[.slice av nv cv,.agg #[.int .i64 y,.string r]] W fun e w'=>e=.returned (.bool true)∧Below W.heap.size W w':=by
  have HA:Hid (∀ w:World,Calls Tryz.prog 61 #[] w fun e w'=>e=.returned (.bool true)∧Below w.heap.size w w'):=awake7_c
  have BB:Hid (Below W.heap.size W W):=Below.refl _ _
  have HS2:=HS1
  have HS3:=HS1
  have HS4:=HS1
  have HNL:Hid (∀ w:World,Calls Tryz.prog 71 #[.pointer none,.agg #[.int .i64 y,.string r]] w fun e w'=>e=.returned (.int .i64 2)∧Below w.heap.size w w'):=fun w=>nil_ld w y r
  have HNS:Hid (∀ w:World,Calls Tryz.prog 23 #[.pointer none,.agg #[.int .i64 y,.string r],.agg #[.int .i64 y,.string r]] w fun e w'=>e=.returned (.tuple #[.bool false,.int .i64 2])∧Below w.heap.size w w'):=fun w=>nil_sub w y r y r
  have HNA:Hid (∀ w:World,Calls Tryz.prog 68 #[.pointer none,.agg #[.int .i64 y,.string r]] w fun e w'=>e=.returned (.tuple #[.slice none 0 0,.int .i64 2])∧Below w.heap.size w w'):=fun w=>nil_abv w y r
  have HNH:Hid (∀ w:World,Calls Tryz.prog 66 #[.pointer none,.agg #[.int .i64 y,.string r]] w fun e w'=>e=.returned (.tuple #[.int .i64 0,.int .i64 2])∧Below w.heap.size w w'):=fun w=>nil_hld w y r
  have HNT:Hid (∀ w:World,Calls Tryz.prog 63 #[.pointer none,.int .i64 0] w fun e w'=>e=.returned (.tuple #[.agg #[.int .i64 0,.string ⟨#[]⟩],.int .i64 2])∧Below w.heap.size w w'):=fun w=>nil_tof w 0
  obtain ⟨i0,hi0,hz0,hz1,hz2⟩:=info_parts Tryz.hinfoTy
  go_enter Tryz.func14,Tryz.ntmps14
  go_upto_region 6 with (first
    | (go_at_call 61;refine (HA.out _).mono ?_;rintro e w1 ⟨rfl,hb⟩;have uud:=kp2 (n:=W.heap.size) hb;(try clear uuB uu0 uu1 uuf uuL uuN);obtain ⟨uuB,uu0,uu1,uuf,uuL,uuN⟩:=uud;have BB2:Below W.heap.size W w1:=bstep (by repeat (first|refine Below.setCell ?_ (by simp;try omega) _|refine Below.alloc ?_ (by have:=BB.out.size;simp;try omega) _|refine Below.drew ?_|exact BB.out)) hb;clear BB;have BB:Hid (Below W.heap.size W w1):=BB2;clear BB2;clear hb HA)
    | (go_at_call 62;refine (HB.out _ BB.out).mono ?_;rintro e w2 ⟨⟨b,rfl,hw⟩,hb⟩;have uud:=kp2 (n:=W.heap.size) hb;(try clear uuB uu0 uu1 uuf uuL uuN);obtain ⟨uuB,uu0,uu1,uuf,uuL,uuN⟩:=uud;have B2:Hid (Below W.heap.size W w2):=bstep BB.out hb;have hV:∀ w,Below w2.heap.size w2 w→Calls Tryz.prog 68 #[.pointer (some ⟨b,0,none⟩),.agg #[.int .i64 y,.string r]] w fun e w'=>(∃ v,e=.returned (.tuple #[v,.int .i64 E])∧w'.ownsRow w.heap.size 24 2 v K F)∧Below w.heap.size w w':=fun w hx=>HV.out _ _ (hw.below hx);have HV1:Hid (∀ w,Below w2.heap.size w2 w→Calls Tryz.prog 68 #[.pointer (some ⟨b,0,none⟩),.agg #[.int .i64 y,.string r]] w fun e w'=>(∃ v,e=.returned (.tuple #[v,.int .i64 E])∧w'.ownsRow w.heap.size 24 2 v K F)∧Below w.heap.size w w'):=hV;have HV2:Hid (∀ w,Below w2.heap.size w2 w→Calls Tryz.prog 68 #[.pointer (some ⟨b,0,none⟩),.agg #[.int .i64 y,.string r]] w fun e w'=>(∃ v,e=.returned (.tuple #[v,.int .i64 E])∧w'.ownsRow w.heap.size 24 2 v K F)∧Below w.heap.size w w'):=hV;have HV3:Hid (∀ w,Below w2.heap.size w2 w→Calls Tryz.prog 68 #[.pointer (some ⟨b,0,none⟩),.agg #[.int .i64 y,.string r]] w fun e w'=>(∃ v,e=.returned (.tuple #[v,.int .i64 E])∧w'.ownsRow w.heap.size 24 2 v K F)∧Below w.heap.size w w'):=hV;have HO2:Hid (∀ w,Below w2.heap.size w2 w→Calls Tryz.prog 30 #[.slice av nv cv] w fun e w'=>(∃ b,e=.returned (.pointer (some ⟨b,0,none⟩))∧RAt b cs w')∧Below w.heap.size w w'):=fun w hx=>HO.out _ (bstep B2.out hx);have U2:Hid (w2.heap[W.heap.size]?=some (.cells #[.int .i64 y,.string r] 24 (0,0))):=uuB.out;have UL:W.heap.size<w2.heap.size:=uuL;have D:Hid (Below w2.heap.size w2 w2):=Below.refl _ _;clear hb HB hw BB HO HV hV)
    | (go_at_call 68;refine (HV1.out _ D.out).mono ?_;rintro e w3 ⟨⟨v9,rfl,ho⟩,hb⟩;obtain ⟨a3,c3,rfl⟩:=ownv ho;have OA:Hid (w3.ownsRow w2.heap.size 24 2 (.slice a3 K c3) K F):=ho;have GA:Hid (∀ k,(Value.slice a3 K c3).ownBlock=some k→w2.heap.size≤k∧k<w3.heap.size):=ho.lt;have uud:=kp2 (n:=W.heap.size) hb (by first|omega|(simp;try omega)) uuB.out;(try clear uuB uu0 uu1 uuf uuL uuN);obtain ⟨uuB,uu0,uu1,uuf,uuL,uuN⟩:=uud;have D2:Below w2.heap.size w2 w3:=bstep D.out hb;clear D;have D:Hid (Below w2.heap.size w2 w3):=D2;clear D2;clear hb ho HV1)
    | (go_at_call 68;refine (HV2.out _ D.out).mono ?_;rintro e w4 ⟨⟨v9,rfl,ho⟩,hb⟩;obtain ⟨a4,c4,rfl⟩:=ownv ho;have OB:Hid (w4.ownsRow w3.heap.size 24 2 (.slice a4 K c4) K F):=ho;have L34:w3.heap.size≤w4.heap.size:=hb.size;have uud:=kp2 (n:=W.heap.size) hb (by first|omega|(simp;try omega)) uuB.out;(try clear uuB uu0 uu1 uuf uuL uuN);obtain ⟨uuB,uu0,uu1,uuf,uuL,uuN⟩:=uud;have Z9:=own_kb OA.out hb;clear OA;have OA:Hid (w4.ownsRow w2.heap.size 24 2 (.slice a3 K c3) K F):=Z9;clear Z9;have D2:Below w2.heap.size w2 w4:=bstep D.out hb;clear D;have D:Hid (Below w2.heap.size w2 w4):=D2;clear D2;clear hb ho HV2))
  go_cut [10,11] (fun s10 s11 wx=>Hid (∃ a6 c6,s10=.slice a6 K c6∧s11=.int .i64 E∧wx.ownsRow w3.heap.size 24 2 (.slice a6 K c6) K F∧wx.ownsRow w2.heap.size 24 2 (.slice a3 K c3) K F∧wx.ownsRow w3.heap.size 24 2 (.slice a4 K c4) K F∧Below w2.heap.size w2 wx))
  case first =>
    go_region_law (first
      | (refine step_call1 rfl 30 callOf7 (.tmp 41) 22 rfl (.slice av nv cv) (by simp [Act.eval,Act.put]) (HO2.out _ D.out.drew) ?_;rintro e w5 ⟨⟨bx,rfl,hw⟩,hb⟩;refine ⟨_,rfl,?_⟩;have HR:Hid (RAt bx cs w5):=hw;have L35:w3.heap.size≤w5.heap.size:=Nat.le_trans L34 hb.size;have uud:=kp2 (n:=W.heap.size) hb (by first|omega|(simp;try omega)) uuB.out;(try clear uuB uu0 uu1 uuf uuL uuN);obtain ⟨uuB,uu0,uu1,uuf,uuL,uuN⟩:=uud;have Z9:=own_kb OA.out.drew hb;clear OA;have OA:Hid (w5.ownsRow w2.heap.size 24 2 (.slice a3 K c3) K F):=Z9;clear Z9;have Z9:=own_kb OB.out.drew hb;clear OB;have OB:Hid (w5.ownsRow w3.heap.size 24 2 (.slice a4 K c4) K F):=Z9;clear Z9;have D2:Below w2.heap.size w2 w5:=bstep D.out.drew hb;clear D;have D:Hid (Below w2.heap.size w2 w5):=D2;clear D2;clear hb HO2 hw)
      | (refine step_call2k rfl 69 callRab (.tmp 42) (.tmp 43) 55 24 rfl (.pointer (some ⟨bx,0,none⟩)) (.agg #[.int .i64 y,.string r]) (by simp [Act.eval]) (by simp [Act.eval]) (HX.out _ _ HR.out) ?_;rintro e w6 ⟨⟨v9,rfl,ho⟩,hb⟩;obtain ⟨a6,c6,rfl⟩:=ownv ho;refine ⟨_,rfl,?_⟩;have OC:Hid (w6.ownsRow w3.heap.size 24 2 (.slice a6 K c6) K F):=Go.Joins.ownsRow_le ho L35;have Z9:=own_kb OA.out hb;clear OA;have OA:Hid (w6.ownsRow w2.heap.size 24 2 (.slice a3 K c3) K F):=Z9;clear Z9;have Z9:=own_kb OB.out hb;clear OB;have OB:Hid (w6.ownsRow w3.heap.size 24 2 (.slice a4 K c4) K F):=Z9;clear Z9;have D2:Below w2.heap.size w2 w6:=bstep D.out hb;clear D;have D:Hid (Below w2.heap.size w2 w6):=D2;clear D2;clear hb HX ho))
    all_goals (go_wp2_with fail)
    all_goals go_meet
    all_goals exact ⟨_,_,rfl,rfl,OC.out,OA.out,OB.out,D.out⟩
  case rest =>
    obtain ⟨a6,c6,rfl,rfl,hOC,hOA,hOB,hD⟩:=hcut.out
    clear hcut uuB uu0 uu1 uuf uuL uuN OA OB D HO2 HX
    have OA:Hid (wc.ownsRow w2.heap.size 24 2 (.slice a3 K c3) K F):=hOA
    have OB:Hid (wc.ownsRow w3.heap.size 24 2 (.slice a4 K c4) K F):=hOB
    have OC:Hid (wc.ownsRow w3.heap.size 24 2 (.slice a6 K c6) K F):=hOC
    have D:Hid (Below w2.heap.size w2 wc):=hD
    obtain ⟨uuB,uu0,uu1,uuf,uuL,uuN⟩:=kp2 (n:=W.heap.size) hD UL U2.out
    clear hOC hOA hOB hD
    go_wp2_with (first
      | (go_at_call 70;refine (HS1.out _ _ _ _ _ OA.out OC.out).mono ?_;rintro e w7 ⟨rfl,hb⟩;have uud:=kp2 (n:=W.heap.size) hb (by first|omega|(simp;try omega)) uuB.out;(try clear uuB uu0 uu1 uuf uuL uuN);obtain ⟨uuB,uu0,uu1,uuf,uuL,uuN⟩:=uud;have Z9:=own_kb OA.out hb;clear OA;have OA:Hid (w7.ownsRow w2.heap.size 24 2 (.slice a3 K c3) K F):=Z9;clear Z9;have Z9:=own_kb OB.out hb;clear OB;have OB:Hid (w7.ownsRow w3.heap.size 24 2 (.slice a4 K c4) K F):=Z9;clear Z9;have Z9:=own_kb OC.out hb;clear OC;have OC:Hid (w7.ownsRow w3.heap.size 24 2 (.slice a6 K c6) K F):=Z9;clear Z9;have D2:Below w2.heap.size w2 w7:=bstep (by repeat (first|refine Below.setCell ?_ (by simp;try omega) _|refine Below.alloc ?_ (by have:=D.out.size;simp;try omega) _|refine Below.drew ?_|exact D.out)) hb;clear D;have D:Hid (Below w2.heap.size w2 w7):=D2;clear D2;clear hb HS1)
      | (go_at_call 70;refine (HS2.out _ _ _ _ _ OB.out OC.out).mono ?_;rintro e w8 ⟨rfl,hb⟩;have uud:=kp2 (n:=W.heap.size) hb (by first|omega|(simp;try omega)) uuB.out;(try clear uuB uu0 uu1 uuf uuL uuN);obtain ⟨uuB,uu0,uu1,uuf,uuL,uuN⟩:=uud;have Z9:=own_kb OA.out hb;clear OA;have OA:Hid (w8.ownsRow w2.heap.size 24 2 (.slice a3 K c3) K F):=Z9;clear Z9;have Z9:=own_kb OB.out hb;clear OB;have OB:Hid (w8.ownsRow w3.heap.size 24 2 (.slice a4 K c4) K F):=Z9;clear Z9;have Z9:=own_kb OC.out hb;clear OC;have OC:Hid (w8.ownsRow w3.heap.size 24 2 (.slice a6 K c6) K F):=Z9;clear Z9;have D2:Below w2.heap.size w2 w8:=bstep (by repeat (first|refine Below.setCell ?_ (by simp;try omega) _|refine Below.alloc ?_ (by have:=D.out.size;simp;try omega) _|refine Below.drew ?_|exact D.out)) hb;clear D;have D:Hid (Below w2.heap.size w2 w8):=D2;clear D2;clear hb HS2))
    go_loopw [12] (fun iv wr=>∃ i:Nat,iv=.int .i64 i∧i≤K∧Hid ((∃ xs,wr.ownsRow w2.heap.size 24 2 (.slice a3 K c3) K xs)∧wr.ownsRow w3.heap.size 24 2 (.slice a4 K c4) K F∧wr.ownsRow w3.heap.size 24 2 (.slice a6 K c6) K F∧Below w2.heap.size w2 wr)) (fun iv _=>K - (intOf iv).toNat)
    case atStart=>exact ⟨0,rfl,Nat.zero_le _,⟨_,OA.out⟩,OB.out,OC.out,D.out⟩
    case round =>
      obtain ⟨i,rfl,hi,hI⟩:=hrel
      clear uuB uu0 uu1 uuf uuL uuN OA OB OC D
      obtain ⟨⟨xs,h1⟩,h2,h3,h4⟩:=hI.out
      clear hI
      by_cases hlt:i<K
      · have hiI:(i:Int)<(K:Int):=by omega
        obtain ⟨g,cp,hf⟩:=Go.Joins.ownsRow_form h1 (by omega)
        injection hf with e1 _ e2
        subst e1 e2
        obtain ⟨g1,g2⟩:=GA.out g rfl
        have hlen:xs.length=K * 2:=h1.1
        have x0:=(h1.cellAt (i * 2) (by omega)).trans (List.getElem?_eq_getElem (by omega))
        have x1:=(h1.cellAt (i * 2+1) (by omega)).trans (List.getElem?_eq_getElem (by omega))
        generalize xs[i * 2]=y0 at x0
        generalize xs[i * 2+1]=y1 at x1
        have xf:∀ k,wr.frozen? ⟨g,k,none⟩=false:=fun k=>h1.frozenAt k
        have xL:g<wr.heap.size:=(h1.lt g rfl).2
        have NX:Hid ((∃ xs,((wr.setCell ⟨g,i * 2,none⟩ (.int .i64 77)).setCell ⟨g,i * 2+1,none⟩ (.string ⟨#[]⟩)).ownsRow w2.heap.size 24 2 (.slice (some ⟨g,0,none⟩) K c3) K xs)∧((wr.setCell ⟨g,i * 2,none⟩ (.int .i64 77)).setCell ⟨g,i * 2+1,none⟩ (.string ⟨#[]⟩)).ownsRow w3.heap.size 24 2 (.slice a4 K c4) K F∧((wr.setCell ⟨g,i * 2,none⟩ (.int .i64 77)).setCell ⟨g,i * 2+1,none⟩ (.string ⟨#[]⟩)).ownsRow w3.heap.size 24 2 (.slice a6 K c6) K F∧Below w2.heap.size w2 ((wr.setCell ⟨g,i * 2,none⟩ (.int .i64 77)).setCell ⟨g,i * 2+1,none⟩ (.string ⟨#[]⟩))):=by
          have s1:=h1.stored (i * 2) (.int .i64 77)
          have s2:=s1.1.stored (i * 2+1) (.string ⟨#[]⟩)
          have gk:∀ k,(Value.slice (some ⟨g,0,none⟩) K c3).ownBlock=some k→k<w3.heap.size:=fun k hk=>(GA.out k hk).2
          exact ⟨⟨_,s2.1⟩,own_apart (own_apart h2 gk s1.2) gk s2.2,own_apart (own_apart h3 gk s1.2) gk s2.2,(h4.setCell (by simp;omega) _).setCell (by simp;omega) _⟩
        clear h1 h2 h3 h4 hlen
        go_wp2
        exact ⟨⟨i+1,by simp,by omega,NX.out⟩,by simp [intOf];omega⟩
      · have e:i=K:=by omega
        subst e
        have OA:Hid (wr.ownsRow w2.heap.size 24 2 (.slice a3 i c3) i xs):=h1
        have OB:Hid (wr.ownsRow w3.heap.size 24 2 (.slice a4 i c4) i F):=h2
        have OC:Hid (wr.ownsRow w3.heap.size 24 2 (.slice a6 i c6) i F):=h3
        have D:Hid (Below w2.heap.size w2 wr):=h4
        obtain ⟨uuB,uu0,uu1,uuf,uuL,uuN⟩:=kp2 (n:=W.heap.size) h4 UL U2.out
        clear h1 h2 h3 h4
        go_wp2_with (at_builtin;refine wpList_append_own _ rfl _ _ 66 rfl w2.heap.size 24 i0 (.agg #[.int .i64 0,.string ⟨#[]⟩]) 2 24 Tryz.underlying66 hi0 hz0 hz1 hz2 rfl (by decide) (.slice a3 i c3) i xs rfl (OA.out.alloc _) ⟨wr.heap.size,0,none⟩ 2 2 [.int .i64 78,.string ⟨#[]⟩,.int .i64 79,.string ⟨#[]⟩] rfl rfl ?c1 ?c2 ?c3 ?c4 ?c5 ?_)
        case c1=>exact World.news_of_block (cs:=#[.int .i64 78,.string ⟨#[]⟩,.int .i64 79,.string ⟨#[]⟩]) (halloc1 _ _)
        case c2=>intro u hu;simp at hu;rcases hu with rfl|rfl|rfl|rfl <;> rfl
        case c3=>unfold maxLen;omega
        case c4=>omega
        case c5=>have:=D.out.size;simp;omega
        intro v' w9 hown hgrow _
        obtain ⟨a9,c9,rfl⟩:=ownv hown
        have hb:Below w2.heap.size w2 w9:=by
          refine (D.out.alloc D.out.size _).grown hgrow (by have:=D.out.size;simp;omega) (fun z hz=>?_)
          exact (OA.out.lt z hz).1
        have gk:∀ k,(Value.slice a3 i c3).ownBlock=some k→k<w3.heap.size:=fun k hk=>(GA.out k hk).2
        have OB9:=own_apart (OB.out.alloc _) gk hgrow
        have OC9:=own_apart (OC.out.alloc _) gk hgrow
        clear OA OB OC D uuB uu0 uu1 uuf uuL uuN hown hgrow gk
        have OB:Hid (w9.ownsRow w3.heap.size 24 2 (.slice a4 i c4) i F):=OB9
        have OC:Hid (w9.ownsRow w3.heap.size 24 2 (.slice a6 i c6) i F):=OC9
        have D:Hid (Below w2.heap.size w2 w9):=hb
        obtain ⟨uuB,uu0,uu1,uuf,uuL,uuN⟩:=kp2 (n:=W.heap.size) hb UL U2.out
        clear OB9 OC9 hb
        go_wp2_with (first
          | (go_at_call 68;refine (HV3.out _ D.out).mono ?_;rintro e w10 ⟨⟨v9,rfl,ho⟩,hb⟩;obtain ⟨a10,c10,rfl⟩:=ownv ho;have OD:Hid (w10.ownsRow w9.heap.size 24 2 (.slice a10 i c10) i F):=ho;have uud:=kp2 (n:=W.heap.size) hb (by first|omega|(simp;try omega)) uuB.out;(try clear uuB uu0 uu1 uuf uuL uuN);obtain ⟨uuB,uu0,uu1,uuf,uuL,uuN⟩:=uud;have Z9:=own_kb OB.out hb;clear OB;have OB:Hid (w10.ownsRow w3.heap.size 24 2 (.slice a4 i c4) i F):=Z9;clear Z9;have Z9:=own_kb OC.out hb;clear OC;have OC:Hid (w10.ownsRow w3.heap.size 24 2 (.slice a6 i c6) i F):=Z9;clear Z9;have D2:Below w2.heap.size w2 w10:=bstep D.out hb;clear D;have D:Hid (Below w2.heap.size w2 w10):=D2;clear D2;clear hb ho HV3)
          | (go_at_call 70;refine (HS3.out _ _ _ _ _ OB.out OC.out).mono ?_;rintro e w11 ⟨rfl,hb⟩;have uud:=kp2 (n:=W.heap.size) hb (by first|omega|(simp;try omega)) uuB.out;(try clear uuB uu0 uu1 uuf uuL uuN);obtain ⟨uuB,uu0,uu1,uuf,uuL,uuN⟩:=uud;have Z9:=own_kb OB.out hb;clear OB;have OB:Hid (w11.ownsRow w3.heap.size 24 2 (.slice a4 i c4) i F):=Z9;clear Z9;have Z9:=own_kb OC.out hb;clear OC;have OC:Hid (w11.ownsRow w3.heap.size 24 2 (.slice a6 i c6) i F):=Z9;clear Z9;have Z9:=own_kb OD.out hb;clear OD;have OD:Hid (w11.ownsRow w9.heap.size 24 2 (.slice a10 i c10) i F):=Z9;clear Z9;have D2:Below w2.heap.size w2 w11:=bstep (by repeat (first|refine Below.setCell ?_ (by simp;try omega) _|refine Below.alloc ?_ (by have:=D.out.size;simp;try omega) _|refine Below.drew ?_|exact D.out)) hb;clear D;have D:Hid (Below w2.heap.size w2 w11):=D2;clear D2;clear hb HS3)
          | (go_at_call 70;refine (HS4.out _ _ _ _ _ OD.out OC.out).mono ?_;rintro e w12 ⟨rfl,hb⟩;have uud:=kp2 (n:=W.heap.size) hb (by first|omega|(simp;try omega)) uuB.out;(try clear uuB uu0 uu1 uuf uuL uuN);obtain ⟨uuB,uu0,uu1,uuf,uuL,uuN⟩:=uud;have D2:Below w2.heap.size w2 w12:=bstep (by repeat (first|refine Below.setCell ?_ (by simp;try omega) _|refine Below.alloc ?_ (by have:=D.out.size;simp;try omega) _|refine Below.drew ?_|exact D.out)) hb;clear D;have D:Hid (Below w2.heap.size w2 w12):=D2;clear D2;clear hb HS4)
          | (go_at_call 23;refine (HNS.out _).mono ?_;rintro e w13 ⟨rfl,hb⟩;have uud:=kp2 (n:=W.heap.size) hb;(try clear uuB uu0 uu1 uuf uuL uuN);obtain ⟨uuB,uu0,uu1,uuf,uuL,uuN⟩:=uud;have D2:Below w2.heap.size w2 w13:=bstep (by repeat (first|refine Below.setCell ?_ (by simp;try omega) _|refine Below.alloc ?_ (by have:=D.out.size;simp;try omega) _|refine Below.drew ?_|exact D.out)) hb;clear D;have D:Hid (Below w2.heap.size w2 w13):=D2;clear D2;clear hb HNS)
          | (go_at_call 68;refine (HNA.out _).mono ?_;rintro e w14 ⟨rfl,hb⟩;have uud:=kp2 (n:=W.heap.size) hb;(try clear uuB uu0 uu1 uuf uuL uuN);obtain ⟨uuB,uu0,uu1,uuf,uuL,uuN⟩:=uud;have D2:Below w2.heap.size w2 w14:=bstep (by repeat (first|refine Below.setCell ?_ (by simp;try omega) _|refine Below.alloc ?_ (by have:=D.out.size;simp;try omega) _|refine Below.drew ?_|exact D.out)) hb;clear D;have D:Hid (Below w2.heap.size w2 w14):=D2;clear D2;clear hb HNA)
          | (go_at_call 66;refine (HNH.out _).mono ?_;rintro e w15 ⟨rfl,hb⟩;have uud:=kp2 (n:=W.heap.size) hb;(try clear uuB uu0 uu1 uuf uuL uuN);obtain ⟨uuB,uu0,uu1,uuf,uuL,uuN⟩:=uud;have D2:Below w2.heap.size w2 w15:=bstep (by repeat (first|refine Below.setCell ?_ (by simp;try omega) _|refine Below.alloc ?_ (by have:=D.out.size;simp;try omega) _|refine Below.drew ?_|exact D.out)) hb;clear D;have D:Hid (Below w2.heap.size w2 w15):=D2;clear D2;clear hb HNH)
          | (go_at_call 63;refine (HNT.out _).mono ?_;rintro e w16 ⟨rfl,hb⟩;have uud:=kp2 (n:=W.heap.size) hb;(try clear uuB uu0 uu1 uuf uuL uuN);obtain ⟨uuB,uu0,uu1,uuf,uuL,uuN⟩:=uud;have D2:Below w2.heap.size w2 w16:=bstep (by repeat (first|refine Below.setCell ?_ (by simp;try omega) _|refine Below.alloc ?_ (by have:=D.out.size;simp;try omega) _|refine Below.drew ?_|exact D.out)) hb;clear D;have D:Hid (Below w2.heap.size w2 w16):=D2;clear D2;clear hb HNT)
          | (go_at_call 71;refine (HNL.out _).mono ?_;rintro e w17 ⟨rfl,hb⟩;have uud:=kp2 (n:=W.heap.size) hb;(try clear uuB uu0 uu1 uuf uuL uuN);obtain ⟨uuB,uu0,uu1,uuf,uuL,uuN⟩:=uud;have D2:Below w2.heap.size w2 w17:=bstep (by repeat (first|refine Below.setCell ?_ (by simp;try omega) _|refine Below.alloc ?_ (by have:=D.out.size;simp;try omega) _|refine Below.drew ?_|exact D.out)) hb;clear D;have D:Hid (Below w2.heap.size w2 w17):=D2;clear D2;clear hb HNL))
        all_goals go_ret
        all_goals exact ⟨retB (by simp [*]),bstep B2.out (by repeat (first|refine Below.setCell ?_ (by simp;try omega) _|refine Below.alloc ?_ (by have:=D.out.size;simp;try omega) _|refine Below.drew ?_|exact D.out))⟩
theorem ArraysKeeps_any (v:Value) (l:List Cls) (y:Int) (r:ByteArray) (W:World) (h:IsClss W v l) (hr:r.size≤maxLen):Calls Tryz.prog 14 #[v,.agg #[.int .i64 y,.string r]] W fun e w'=>e=.returned (.bool true)∧Below W.heap.size W w':=by
  have hC:=clss_w h
  have hT:=twW l hC
  have hS:=stW l hC
  obtain ⟨av,nv,cv,rfl⟩:∃ a n c,v=.slice a n c:=by
    obtain ⟨ao,cap,e,_⟩:=h
    exact ⟨_,_,_,e⟩
  generalize hps:wld l=ps at hT hS
  generalize hcs:wldC l=cs at hT
  have hL:(abvR ps y r).1.length≤100:=by
    by_cases hl:ldI ps y r=0
    · have e0:abvR ps y r=(stpP ps y.toNat r,0):=by rw [abvR,if_pos hl]
      obtain ⟨x0,_,_⟩:=ld_facts hl
      rw [e0]
      exact (stp_small hS hl y.toNat (by omega)).1
    · rw [abvR,if_neg hl];exact Nat.zero_le _
  refine keeps_w ps cs W av nv cv y r (abvR ps y r).2 (abvR ps y r).1.length (flatU (abvR ps y r).1) (by omega) (fun w hb=>?_) (fun w hb=>?_) (fun b w hw=>abv_c hw hS y r hr) (fun b w hw=>rAbv_c hw hT hS y r hr) (fun N1 N2 v1 v2 w h1 h2=>sameTys_eq N1 N2 _ v1 v2 w h1 h2 (by omega))
  · have:=built7_c _ l w (clss_keep h hb)
    rw [hps] at this
    exact this
  · have:=of_c _ l w (clss_keep h hb)
    rw [hcs] at this
    exact this
end Go.Proofs.YtkclpcmkplbclaaGreat
