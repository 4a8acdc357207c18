import Derived.Test.YthfifobokpfpkaaGreatLcP
import Derived.Test.YthfifobokpfpkaaGreatAcE
import Derived.Test.YthfifobokpfpkaaGreatHrQ
import Derived.Test.YthfifobokpfpkaaGreatOvE
set_option maxRecDepth 100000
namespace Go.Proofs.YthfifobokpfpkaaGreat
open Go.RowKit Go.Maps
def UnqM (ps:List Plc):Prop:=∀ q∈ps,∀ (i:Nat) (m:HM),q.c.ms[i]?=some m→findH m.nm m.ds q.c.ms 0=(i:Int)
theorem find_map (nm ds:ByteArray):∀ (l:List Mth) (k:Nat),findH nm ds (l.map hmOf) k=findM nm ds l k
  | [],_=>rfl
  | m::r,k=>by
    rw [List.map_cons,findH,findM,find_map nm ds r (k+1)]
    rfl
theorem mths_find {iface:Bool} {all:List Mth}:∀ {l:List Mth} {k:Nat},mthsB iface all l k=true→∀ (i:Nat) (m:Mth),l[i]?=some m→findM m.nm m.ds all 0=((k+i:Nat):Int)
  | [],_,_,_,_,hm=>by simp at hm
  | x::r,k,h,i,m,hm=>by
    rw [mthsB,Bool.and_eq_true,Bool.and_eq_true,beq_iff_eq] at h
    cases i with
    | zero =>
      simp only [List.getElem?_cons_zero,Option.some.injEq] at hm
      subst hm
      exact h.1.2
    | succ i =>
      rw [List.getElem?_cons_succ] at hm
      have:=mths_find h.2 i m hm
      rw [this];congr 1;omega
theorem unqObj:(objMs.zipIdx.all fun p=>findH p.1.nm p.1.ds objMs 0 == (p.2:Int))=true:=by kernel_rfl
theorem unqM3:UnqM P3:=by
  intro q hq i m hm
  simp only [P3,List.mem_cons,List.not_mem_nil,or_false] at hq
  rcases hq with rfl|rfl|rfl
  · have:=List.all_eq_true.1 unqObj (m,i) (List.mem_zipIdx_iff_getElem?.2 hm)
    exact beq_iff_eq.1 this
  · simp [cloH] at hm
  · simp [serH] at hm
theorem unqM_wld (l:List Cls) (hl:∀ c∈l,ClsW c):UnqM (wld l):=by
  refine wld_ind unqM3 (fun ps c h _=>?_) l hl
  cases hd:defN ps c with
  | error e=>exact h
  | ok p =>
    obtain ⟨hB,_,_,s,l,_,_,rfl⟩:=def_ok hd
    intro q hq i m hm
    rcases List.mem_append.1 (show q∈ps++[_] from hq) with hq|hq
    · exact h q hq i m hm
    · rw [List.mem_singleton] at hq
      subst hq
      have hm2:(c.ms.map hmOf)[i]?=some m:=hm
      rw [List.getElem?_map] at hm2
      obtain ⟨m0,hm0,rfl⟩:=Option.map_eq_some_iff.1 hm2
      rw [clsB,Bool.and_eq_true] at hB
      have:=mths_find hB.2 i m0 hm0
      show findH m0.nm m0.ds (c.ms.map hmOf) 0=(i:Int)
      rw [find_map,this,Nat.zero_add]
theorem find_congr {nm ds nm2 ds2:ByteArray} (h1:nm.toList=nm2.toList) (h2:ds.toList=ds2.toList):∀ (l:List HM) (k:Nat),findH nm ds l k=findH nm2 ds2 l k
  | [],_=>rfl
  | m::r,k=>by rw [findH,findH,h1,h2,find_congr h1 h2 r (k+1)]
theorem UnqM.fnd {ps:List Plc} (h:UnqM ps) {c i:Int} {m:HM} (hm:methI ps c i=some m) {nm ds:ByteArray} (h1:m.nm.toList=nm.toList) (h2:m.ds.toList=ds.toList):fndI ps c nm ds=(i,0):=by
  obtain ⟨k,q,rfl,hq,hp,hm2⟩:=meth_plc hm
  rw [methP] at hm2
  split at hm2
  · rename_i hi
    have:=h q (List.mem_of_getElem? hq) i.toNat m hm2
    have e:findH nm ds q.c.ms 0=i:=by rw [← find_congr h1 h2,this];omega
    rw [fndI,hp]
    simp only [e]
    rw [if_neg (by omega)]
  · cases hm2
theorem extI_split {ps:List Plc} {a b:Int} (h:extI ps a b=true):∃ i j:Nat,a=(i:Int)∧b=(j:Int)∧i<ps.length∧j<ps.length∧extB (ps.map nd) i j=true:=by
  rw [extI,Bool.and_eq_true,Bool.and_eq_true] at h
  obtain ⟨⟨h1,h2⟩,h3⟩:=h
  rcases plcI_cases ps a with ⟨e,_⟩|⟨i,q,rfl,hq,_⟩
  · rw [e] at h1;cases h1
  · rcases plcI_cases ps b with ⟨e,_⟩|⟨j,r,rfl,hr,_⟩
    · rw [e] at h2;cases h2
    · exact ⟨i,j,rfl,rfl,(List.getElem?_eq_some_iff.1 hq).1,(List.getElem?_eq_some_iff.1 hr).1,h3⟩
theorem extI_tr {ps:List Plc} (hW:WI ps) {a b c:Int} (h1:extI ps a b=true) (h2:extI ps b c=true):extI ps a c=true:=by
  obtain ⟨i,j,rfl,rfl,hi,hj,e1⟩:=extI_split h1
  obtain ⟨j2,k,hjj,rfl,_,hk,e2⟩:=extI_split h2
  obtain rfl:j=j2:=by omega
  rw [extI_nat hi hk]
  exact ext_trans hW.wo (by simpa using hi) e1 e2
theorem extI_le {ps:List Plc} (hW:WI ps) {a b:Int} (h1:extI ps a b=true):b≤a:=by
  obtain ⟨i,j,rfl,rfl,hi,hj,e1⟩:=extI_split h1
  have:=ext_le hW.wo (by simpa using hi) e1
  omega
theorem extI_refl {ps:List Plc} {c i:Int} {m:HM} (h:methI ps c i=some m):extI ps c c=true:=by
  obtain ⟨k,q,rfl,hq,_,_⟩:=meth_plc h
  have:=(List.getElem?_eq_some_iff.1 hq).1
  rw [extI_nat this this]
  exact ext_self _ _
theorem pl_facts {ps:List Plc} {x y:Int×Int} (h:plI ps x y=true):∃ mx my,methI ps x.1 x.2=some mx∧methI ps y.1 y.2=some my∧mx.nm.toList=my.nm.toList∧mx.ds.toList=my.ds.toList∧stB mx.fl=false∧stB my.fl=false∧x.1≠y.1∧ifcI ps x.1=false∧extI ps x.1 y.1=true:=by
  rw [plI] at h
  cases hx:methI ps x.1 x.2 with
  | none=>rw [hx] at h;cases h
  | some mx =>
    cases hy:methI ps y.1 y.2 with
    | none=>rw [hx,hy] at h;cases h
    | some my =>
      rw [hx,hy] at h
      simp only [plnB,freB,bloB,Bool.and_eq_true,Bool.not_eq_true',beq_iff_eq,beq_eq_false_iff_ne] at h
      obtain ⟨⟨⟨⟨⟨⟨h1,h2⟩,h3⟩,h4⟩,h5⟩,_⟩,_⟩:=h
      exact ⟨mx,my,rfl,rfl,h3,h4,h1.1,h2.1,h5.1.1,h5.1.2,h5.2⟩
def OvN (ps:List Plc) (a:Int×Int):Nat→Int×Int→Prop
  | 0,x=>x=a∧stI ps a=false
  | n+1,x=>∃ y,OvN ps a n y∧plI ps x y=true
def Ov (ps:List Plc) (a x:Int×Int):Prop:=∃ n,OvN ps a n x
theorem Ov.step {ps:List Plc} {a x y:Int×Int} (h:Ov ps a y) (hp:plI ps x y=true):Ov ps a x:=by
  obtain ⟨n,hn⟩:=h
  exact ⟨n+1,y,hn,hp⟩
theorem ovN_facts {ps:List Plc} (hW:WI ps) {a:Int×Int} {ma:HM} (ha:methI ps a.1 a.2=some ma):∀ (n:Nat) (x:Int×Int),OvN ps a n x→∃ mx,methI ps x.1 x.2=some mx∧mx.nm.toList=ma.nm.toList∧mx.ds.toList=ma.ds.toList∧stB mx.fl=false∧extI ps x.1 a.1=true∧(x=a∨(ifcI ps x.1=false∧a.1<x.1))
  | 0,x,h=>by
    obtain ⟨rfl,hs⟩:=h
    refine ⟨ma,ha,rfl,rfl,?_,extI_refl ha,.inl rfl⟩
    rw [stI,ha] at hs
    exact hs
  | n+1,x,h=>by
    obtain ⟨y,hy,hp⟩:=h
    obtain ⟨my,hmy,e1,e2,_,e4,e5⟩:=ovN_facts hW ha n y hy
    obtain ⟨mx,my2,hmx,hmy2,f1,f2,f3,_,f5,f6,f7⟩:=pl_facts hp
    rw [hmy] at hmy2
    cases hmy2
    have hle:=extI_le hW f7
    have hle2:=extI_le hW e4
    exact ⟨mx,hmx,f1.trans e1,f2.trans e2,f3,extI_tr hW f7 e4,.inr ⟨f6,by omega⟩⟩
theorem gth_ov {ps:List Plc} {a:Int×Int}:∀ (l k:List (Int×Int)),(∀ y∈k,Ov ps a y)→∀ x∈l.foldl (gth1 ps a) k,Ov ps a x
  | [],_,hk,x,hx=>hk x hx
  | c::r,k,hk,x,hx=>by
    rw [List.foldl_cons] at hx
    refine gth_ov r _ (fun y hy=>?_) x hx
    rw [gth1] at hy
    split at hy
    · rename_i hc
      rcases List.mem_append.1 hy with hy|hy
      · exact hk y hy
      · rw [List.mem_singleton] at hy
        subst hy
        rw [Bool.or_eq_true] at hc
        rcases hc with hc|hc
        · rw [Bool.and_eq_true,eqI_iff] at hc
          obtain ⟨rfl,hs⟩:=hc
          exact ⟨0,rfl,by simpa using hs⟩
        · obtain ⟨z,hz,hp⟩:=List.any_eq_true.1 hc
          exact (hk z hz).step hp
    · exact hk y hy
theorem upp_none {ps:List Plc} {nm ds:ByteArray}:∀ {l:List Nat},(∀ c∈l,(fndI ps (c:Int) nm ds).2=0→hasS ps (c:Int) (fndI ps (c:Int) nm ds).1 8=true)→uppI ps nm ds l=((0,0),false)
  | [],_=>rfl
  | c::r,h=>by
    rw [uppI,if_neg,upp_none fun d hd=>h d (List.mem_cons_of_mem _ hd)]
    rintro ⟨h1,h2⟩
    rw [h c (by simp) h1] at h2
    cases h2
theorem dflt_facts {ps:List Plc} (hW:WI ps) (hU:UnqM ps) {k:Nat} {q:Plc} (hq:ps[k]?=some q) (hf:ifcI ps (k:Int)=false) {x:Int×Int} (hx:x∈rtsP ps q) {m:HM} (hm:methI ps x.1 x.2=some m) (hall:∀ c∈chL (ps.map nd) k,(fndI ps (c:Int) m.nm m.ds).2=0→hasS ps (c:Int) (fndI ps (c:Int) m.nm m.ds).1 8=true):itfI ps (k:Int) x=onI ps (k:Int) m.nm m.ds∧virI ps (k:Int) x=onI ps (k:Int) m.nm m.ds:=by
  have hk:=(List.getElem?_eq_some_iff.1 hq).1
  have hkl:k<(ps.map nd).length:=by rw [List.length_map];exact hk
  have h10:hasI m.fl 10=false:=by
    obtain ⟨j,i,p,m2,rfl,hp,hm2,hc⟩:=rts_mem hx
    have e:methI ps (j:Int) (i:Int)=some m2:=by
      rw [methI,plcI_nat,hp]
      show methP p (i:Int)=some m2
      rw [methP,if_pos (by omega),Int.toNat_natCast,hm2]
    rw [e] at hm
    cases hm
    rcases hc with ⟨rfl,ht⟩|⟨_,ht⟩
    · exfalso
      have hfd:=hU.fnd e rfl rfl
      have h8:=hall 0 (ch_zero hW.wo k hkl) (by rw [show ((0:Nat):Int)=((0:Nat):Int) from rfl,hfd])
      rw [hfd,hasS,e] at h8
      rw [topB,Bool.and_eq_true,Bool.and_eq_true] at ht
      have h9:=ht.1.2
      have h8b:(bits .and .i64 _ 8 != 0)=true:=h8
      rw [bne,h9] at h8b
      cases h8b
    · rw [iroB] at ht
      rw [hasI]
      simpa using ht
  have hst:stB m.fl=false:=by
    rw [has10c,Bool.or_eq_false_iff] at h10
    exact h10.2
  have hr:=rfr_yes hq hf hm
  constructor
  · rw [itfI,hr]
    simp only [h10]
    have hu:uchI ps m.nm m.ds (k:Int)=((0,0),false):=by rw [uchI,plcI_nat,hq];show uppI ps m.nm m.ds (chL (ps.map nd) ((k:Int).toNat))=_;rw [Int.toNat_natCast];exact upp_none hall
    rw [hu]
    rfl
  · rw [virI,hr]
    simp only [hst]
    have hfi:¬ (firI ps (k:Int) x).2=0:=by
      rw [firI_eq hm rfl hq]
      cases hg:(gthL ps x (askL ps m x (chL (ps.map nd) k).reverse)).getLast? with
      | none=>rw [lstI,hg];exact (by decide:¬ (6:Int)=0)
      | some z =>
        rw [lstI_last hg]
        split
        · rename_i hcon
          exfalso
          have hov:Ov ps x z:=gth_ov _ [] (fun y hy=>by cases hy) z (List.mem_of_getLast? hg)
          obtain ⟨n,hn⟩:=hov
          obtain ⟨mz,hmz,e1,e2,e3,_,_⟩:=ovN_facts hW hm n z hn
          rw [List.contains_iff_mem,List.mem_map] at hcon
          obtain ⟨kz,hkz,ekz⟩:=hcon
          have hfd:=hU.fnd hmz e1 e2
          rw [← ekz] at hfd
          have h8:=hall kz hkz (by rw [hfd])
          rw [hfd,hasS,ekz,hmz] at h8
          have h9:hasI mz.fl 8=false:=e3
          have h8b:hasI mz.fl 8=true:=h8
          rw [h9] at h8b
          cases h8b
        · exact (by decide:¬ (6:Int)=0)
    rw [if_neg hfi]
    rfl
set_option maxHeartbeats 32000000 in
theorem idf_1 (ps:List Plc) (W:World) (v:Value) (id:Int) (T:List Ent) (n:Nat) (E:Int) (hE:(E == 0)=false) (HB:Hid (∀ w:World,Below W.heap.size W w→Calls Tryz.prog 64 #[v] w fun e w'=>(∃ b,e=.returned (.pointer (some ⟨b,0,none⟩))∧WAt b ps w')∧Below w.heap.size w w')) (HD:Hid (∀ b w,WAt b ps w→Calls Tryz.prog 68 #[.pointer (some ⟨b,0,none⟩),.int .i64 id] w fun e w'=>(∃ v,e=.returned (.tuple #[v,.int .i64 E])∧w'.ownsRow w.heap.size 103 8 v n (flat8 T))∧Below w.heap.size w w')) (HC:Hid (∀ b w,WAt b ps w→Calls Tryz.prog 21 #[.pointer (some ⟨b,0,none⟩),.int .i64 id] w fun e w'=>(∃ cv e2,e=.returned (.tuple #[cv,.int .i64 e2]))∧Below w.heap.size w w')):Calls Tryz.prog 12 #[v,.int .i64 id] W fun e w'=>e=.returned (.bool true)∧Below W.heap.size W w':=by
  have HA:Hid (∀ w:World,Calls Tryz.prog 63 #[] w fun e w'=>e=.returned (.bool true)∧Below w.heap.size w w'):=awake14_c
  go_enter Tryz.func12,Tryz.ntmps12
  go_wp2_with (first
    | (go_at_call 63;refine (HA.out _).mono ?_;rintro e w1 ⟨rfl,hb⟩;have B1:Hid (Below W.heap.size W w1):=bstep (by repeat (first|exact Below.refl _ _|refine Below.setCell ?_ (by simp;try omega) _|refine Below.alloc ?_ (by simp;try omega) _|refine Below.drew ?_)) hb;clear hb HA)
    | (go_at_call 64;refine (HB.out _ B1.out).mono ?_;rintro e w2 ⟨⟨b,rfl,hw⟩,hb⟩;have HH:Hid (WAt b ps w2):=hw;have B2:Hid (Below W.heap.size W w2):=bstep B1.out hb;clear hb HB hw)
    | (go_at_call 68;refine (HD.out _ _ HH.out).mono ?_;rintro e w3 ⟨⟨vo,rfl,ho⟩,hb⟩;obtain ⟨x1,x2,rfl⟩:=ownv ho;have O3:Hid (w3.ownsRow w2.heap.size 103 8 (.slice x1 n x2) n (flat8 T)):=ho;have H3:Hid (WAt b ps w3):=HH.out.below hb;have B3:Hid (Below W.heap.size W w3):=bstep B2.out hb;clear hb HD ho HH)
    | (go_at_call 21;refine (HC.out _ _ H3.out).mono ?_;rintro e w4 ⟨⟨cv,e2,rfl⟩,hb⟩;have B4:Hid (Below W.heap.size W w4):=bstep B3.out hb;clear hb HC))
  all_goals go_ret
  all_goals exact ⟨retB (by simp [*]),B4.out⟩
set_option maxHeartbeats 32000000 in
theorem idf_2 (ps:List Plc) (W:World) (v:Value) (id:Int) (T:List Ent) (n:Nat) (HTn:Hid (T.length=n)) (hn:n≤301000000) (l:List Nat) (KK:Nat) (HKL:Hid (l.length=KK)) (hK3:KK≤1000000) (M:Ent→HM) (F:Ent→Nat→Int×Int) (Y:Ent→Nat→HM) (OO:Ent→(Int×Int)×Int) (HB:Hid (∀ w:World,Below W.heap.size W w→Calls Tryz.prog 64 #[v] w fun e w'=>(∃ b,e=.returned (.pointer (some ⟨b,0,none⟩))∧WAt b ps w')∧Below w.heap.size w w'))
    (HD:Hid (∀ b w,WAt b ps w→Calls Tryz.prog 68 #[.pointer (some ⟨b,0,none⟩),.int .i64 id] w fun e w'=>(∃ v,e=.returned (.tuple #[v,.int .i64 0])∧w'.ownsRow w.heap.size 103 8 v n (flat8 T))∧Below w.heap.size w w'))
    (HC:Hid (∀ b w,WAt b ps w→Calls Tryz.prog 21 #[.pointer (some ⟨b,0,none⟩),.int .i64 id] w fun e w'=>(∃ cv,e=.returned (.tuple #[cv,.int .i64 0])∧w'.ownsRow w.heap.size 3 1 cv KK (l.map numV))∧Below w.heap.size w w'))
    (HMt:Hid (∀ x∈T,∀ b w,WAt b ps w→Calls Tryz.prog 17 #[.pointer (some ⟨b,0,none⟩),.agg #[.int .i64 x.r.1,.int .i64 x.r.2]] w fun e w'=>(∃ sa sk so,e=.returned (.tuple #[.agg #[.string (M x).nm,.string (M x).ds,.int .i64 (M x).fl,.int .i64 (M x).lo,.int .i64 (M x).st,.slice sa sk so],.int .i64 0]))∧Below w.heap.size w w'))
    (HFd:Hid (∀ x∈T,∀ (c:Nat) b w,WAt b ps w→Calls Tryz.prog 24 #[.pointer (some ⟨b,0,none⟩),.int .i64 (c:Int),.string (M x).nm,.string (M x).ds] w fun e w'=>(e=.returned (.tuple #[.int .i64 (F x c).1,.int .i64 (F x c).2]))∧Below w.heap.size w w'))
    (HMy:Hid (∀ x∈T,∀ (c:Nat),(F x c).2=0→∀ b w,WAt b ps w→Calls Tryz.prog 17 #[.pointer (some ⟨b,0,none⟩),.agg #[.int .i64 (c:Int),.int .i64 (F x c).1]] w fun e w'=>(∃ sa sk so,e=.returned (.tuple #[.agg #[.string (Y x c).nm,.string (Y x c).ds,.int .i64 (Y x c).fl,.int .i64 (Y x c).lo,.int .i64 (Y x c).st,.slice sa sk so],.int .i64 0]))∧Below w.heap.size w w'))
    (HOn:Hid (∀ x∈T,∀ b w,WAt b ps w→Calls Tryz.prog 78 #[.pointer (some ⟨b,0,none⟩),.int .i64 id,.string (M x).nm,.string (M x).ds] w fun e w'=>(e=.returned (.tuple #[.agg #[.int .i64 (OO x).1.1,.int .i64 (OO x).1.2],.int .i64 (OO x).2]))∧Below w.heap.size w w'))
    (HFI:Hid (∀ x∈T,(∀ c∈l,(F x c).2=0→(bits .and .i64 (Y x c).fl 8 == 0)=false)→x.e=(OO x).2∧x.f=(OO x).2∧x.m=(OO x).1∧x.v=(OO x).1)):Calls Tryz.prog 12 #[v,.int .i64 id] W fun e w'=>e=.returned (.bool true)∧Below W.heap.size W w':=by
  have HA:Hid (∀ w:World,Calls Tryz.prog 63 #[] w fun e w'=>e=.returned (.bool true)∧Below w.heap.size w w'):=awake14_c
  have SI:Hid (∀ (a1 a2:Int) (w:World),Calls Tryz.prog 20 #[.agg #[.int .i64 a1,.int .i64 a2],.agg #[.int .i64 a1,.int .i64 a2]] w fun e w'=>e=.returned (.bool true)∧Below w.heap.size w w'):=fun a1 a2 w=>(sameID_c (a1,a2) (a1,a2) w).mono fun e w' zz=>⟨by rw [zz.1];simp,zz.2⟩
  go_enter Tryz.func12,Tryz.ntmps12
  go_wp2_with (first
    | (go_at_call 63;refine (HA.out _).mono ?_;rintro e w1 ⟨rfl,hb⟩;have B1:Hid (Below W.heap.size W w1):=bstep (by repeat (first|exact Below.refl _ _|refine Below.setCell ?_ (by simp;try omega) _|refine Below.alloc ?_ (by simp;try omega) _|refine Below.drew ?_)) hb;clear hb HA)
    | (go_at_call 64;refine (HB.out _ B1.out).mono ?_;rintro e w2 ⟨⟨b,rfl,hw⟩,hb⟩;have HH:Hid (WAt b ps w2):=hw;have B2:Hid (Below W.heap.size W w2):=bstep B1.out hb;clear hb HB hw)
    | (go_at_call 68;refine (HD.out _ _ HH.out).mono ?_;rintro e w3 ⟨⟨vo,rfl,ho⟩,hb⟩;obtain ⟨x1,x2,rfl⟩:=ownv ho;have O3:Hid (w3.ownsRow w2.heap.size 103 8 (.slice x1 n x2) n (flat8 T)):=ho;have H3:Hid (WAt b ps w3):=HH.out.below hb;have B3:Hid (Below W.heap.size W w3):=bstep B2.out hb;clear hb HD ho HH)
    | (go_at_call 21;refine (HC.out _ _ H3.out).mono ?_;rintro e w4 ⟨⟨cv,rfl,ho⟩,hb⟩;obtain ⟨y1,y2,rfl⟩:=ownv ho;have C4:Hid (w4.ownsRow w3.heap.size 3 1 (.slice y1 KK y2) KK (l.map numV)):=ho;have O4:Hid (w4.ownsRow w2.heap.size 103 8 (.slice x1 n x2) n (flat8 T)):=rowBelow O3.out hb;have H4:Hid (WAt b ps w4):=H3.out.below hb;have B4:Hid (Below W.heap.size W w4):=bstep B3.out hb;clear hb HC ho O3 H3))
  have HW4:Hid (∀ w',Below w4.heap.size w4 w'→WAt b ps w'):=fun w' hb=>H4.out.below hb
  clear H4
  go_loopw [10] (fun kv wr=>∃ (i:Nat),kv=.int .i64 i∧i≤n∧Hid (Below w4.heap.size w4 wr)) (fun kv _=>n - (intOf kv).toNat)
  case atStart=>exact ⟨0,rfl,Nat.zero_le _,Below.refl _ _⟩
  case round =>
    obtain ⟨i,rfl,hi,BB⟩:=hrel
    by_cases hlt:i<n
    · have hiI:(i:Int)<(n:Int):=by omega
      obtain ⟨x,hx⟩:∃ x,T[i]?=some x:=⟨_,List.getElem?_eq_getElem (by rw [HTn.out];exact hlt)⟩
      have hxm:=List.mem_of_getElem? hx
      obtain ⟨g,cp,hform,_,hgl,hcs⟩:=own_at8 O4.out (by omega)
      injection hform with hca _ hcc
      subst hca hcc
      have HCS:Hid (∀ (j:Nat) (u:Value),(flat8 T)[j]?=some u→w4.cell? ⟨g,j,none⟩=some u):=hcs
      have t0:=(BB.out.cell (p:=⟨g,i * 8,none⟩) hgl).trans (hcs _ _ ((flat8_at T i x 0 hx (by decide)).trans rfl))
      have t1:=(BB.out.cell (p:=⟨g,i * 8+1,none⟩) hgl).trans (hcs _ _ ((flat8_at T i x 1 hx (by decide)).trans rfl))
      have HX:Hid (T[i]?=some x):=hx
      have hMt:=HMt.out x hxm
      have hFd:=HFd.out x hxm
      have hMy:=HMy.out x hxm
      have hOn:=HOn.out x hxm
      have hFI:=HFI.out x hxm
      generalize M x=mx at *
      generalize F x=Fx at *
      generalize Y x=Yx at *
      generalize OO x=Ox at *
      obtain ⟨⟨o1,o2⟩,oe⟩:=Ox
      obtain ⟨⟨r1,r2⟩,⟨m1,m2⟩,er,⟨v1,v2⟩,f⟩:=x
      obtain ⟨mn,md,mf,ml,ms,mk,mxs⟩:=mx
      simp only at hMt hFd hOn hFI
      have HMt1:Hid (∀ b w,WAt b ps w→Calls Tryz.prog 17 #[.pointer (some ⟨b,0,none⟩),.agg #[.int .i64 r1,.int .i64 r2]] w fun e w'=>(∃ sa sk so,e=.returned (.tuple #[.agg #[.string mn,.string md,.int .i64 mf,.int .i64 ml,.int .i64 ms,.slice sa sk so],.int .i64 0]))∧Below w.heap.size w w'):=hMt
      have HFd1:Hid (∀ (c:Nat) b w,WAt b ps w→Calls Tryz.prog 24 #[.pointer (some ⟨b,0,none⟩),.int .i64 (c:Int),.string mn,.string md] w fun e w'=>(e=.returned (.tuple #[.int .i64 (Fx c).1,.int .i64 (Fx c).2]))∧Below w.heap.size w w'):=hFd
      have HMy1:Hid (∀ (c:Nat),(Fx c).2=0→∀ b w,WAt b ps w→Calls Tryz.prog 17 #[.pointer (some ⟨b,0,none⟩),.agg #[.int .i64 (c:Int),.int .i64 (Fx c).1]] w fun e w'=>(∃ sa sk so,e=.returned (.tuple #[.agg #[.string (Yx c).nm,.string (Yx c).ds,.int .i64 (Yx c).fl,.int .i64 (Yx c).lo,.int .i64 (Yx c).st,.slice sa sk so],.int .i64 0]))∧Below w.heap.size w w'):=hMy
      have HOn1:Hid (∀ b w,WAt b ps w→Calls Tryz.prog 78 #[.pointer (some ⟨b,0,none⟩),.int .i64 id,.string mn,.string md] w fun e w'=>(e=.returned (.tuple #[.agg #[.int .i64 o1,.int .i64 o2],.int .i64 oe]))∧Below w.heap.size w w'):=hOn
      have HFI1:Hid ((∀ c∈l,(Fx c).2=0→(bits .and .i64 (Yx c).fl 8 == 0)=false)→er=oe∧f=oe∧(m1,m2)=(o1,o2)∧(v1,v2)=(o1,o2)):=hFI
      clear hx hxm hcs hMt hFd hMy hOn hFI HMt HFd HMy HOn HFI
      go_wp2_with (go_at_call 17;refine (HMt1.out _ _ (HW4.out _ BB.out)).mono ?_;rintro e w5 ⟨⟨sa,sk,so,rfl⟩,hb⟩;have B5:Hid (Below w4.heap.size w4 w5):=bstep BB.out hb;clear hb HMt1)
      obtain ⟨U,hU⟩:∃ U,U=w5.alloc (.cells #[.string mn,.string md,.int .i64 mf,.int .i64 ml,.int .i64 ms,.slice sa sk so] 30):=⟨_,rfl⟩
      have BU:Hid (Below w4.heap.size w4 U):=by rw [hU];exact B5.out.alloc B5.out.size _
      have hUB:U.heap[w5.heap.size]?=some (.cells #[.string mn,.string md,.int .i64 mf,.int .i64 ml,.int .i64 ms,.slice sa sk so] 30 (0,0)):=by rw [hU];exact halloc1 _ _
      obtain ⟨xU0,xU1,_,_,_,_,_,xL⟩:=rw6 hUB
      rw [← hU]
      clear hU hUB B5 t0 t1
      obtain ⟨σ,V,hne,V1,V2⟩:=class_of' (fun w'=>Below U.heap.size U w') ⟨_,Below.refl _ _⟩
      have HWU:Hid (∀ w',Below U.heap.size U w'→WAt b ps w'):=fun w' hb=>HW4.out _ (bstep BU.out hb)
      have xV0:∀ s,(V s).cell? ⟨w5.heap.size,0,none⟩=some (.string mn):=fun s=>((V1.out s).cell (p:=⟨w5.heap.size,0,none⟩) xL).trans xU0
      have xV1:∀ s,(V s).cell? ⟨w5.heap.size,1,none⟩=some (.string md):=fun s=>((V1.out s).cell (p:=⟨w5.heap.size,1,none⟩) xL).trans xU1
      go_loopw [13,14] (fun mv kv wr=>∃ (j:Nat) (mt:Bool),mv=.bool mt∧kv=.int .i64 j∧j≤KK∧Hid (mt=false→∀ c∈l.take j,(Fx c).2=0→(bits .and .i64 (Yx c).fl 8 == 0)=false)∧Hid (Below U.heap.size U wr)) (fun _ kv _=>KK - (intOf kv).toNat)
      case atStart=>exact ⟨0,false,rfl,rfl,Nat.zero_le _,(fun _ c hc=>by cases hc),Below.refl _ _⟩
      case round =>
        obtain ⟨j,mt,rfl,rfl,hj,hG,hB⟩:=hrel
        by_cases hlj:j<KK
        · have hjl:j<l.length:=by rw [HKL.out];exact hlj
          have hjI:(j:Int)<(KK:Int):=by omega
          obtain ⟨c,hc⟩:∃ c,l[j]?=some c:=⟨_,List.getElem?_eq_getElem hjl⟩
          obtain ⟨g2,cq,hform,_,hgl2,hcs2⟩:=own_at8 C4.out (by omega)
          injection hform with hca _ hcc
          subst hca hcc
          have hce:w4.cell? ⟨g2,j,none⟩=some (.int .i64 (c:Int)):=hcs2 j _ (by rw [List.getElem?_map,hc];rfl)
          have hgU:g2<U.heap.size:=Nat.lt_of_lt_of_le hgl2 BU.out.size
          have hcU:U.cell? ⟨g2,j,none⟩=some (.int .i64 (c:Int)):=(BU.out.cell (p:=⟨g2,j,none⟩) hgl2).trans hce
          have hcV:∀ s,(V s).cell? ⟨g2,j,none⟩=some (.int .i64 (c:Int)):=fun s=>((V1.out s).cell (p:=⟨g2,j,none⟩) hgU).trans hcU
          have HF:Hid (∀ s,Calls Tryz.prog 24 #[.pointer (some ⟨b,0,none⟩),.int .i64 (c:Int),.string mn,.string md] (V s) fun e w''=>e=.returned (.tuple #[.int .i64 (Fx c).1,.int .i64 (Fx c).2])∧∃ s',w''=V s'):=fun s=>(HFd1.out c b _ (HWU.out _ (V1.out s))).mono fun e w'' zz=>⟨zz.1,V2.out _ (bstep (V1.out s) zz.2)⟩
          have HM2:Hid ((Fx c).2=0→∀ w,Below U.heap.size U w→Calls Tryz.prog 17 #[.pointer (some ⟨b,0,none⟩),.agg #[.int .i64 (c:Int),.int .i64 (Fx c).1]] w fun e w'=>(∃ sa sk so,e=.returned (.tuple #[.agg #[.string (Yx c).nm,.string (Yx c).ds,.int .i64 (Yx c).fl,.int .i64 (Yx c).lo,.int .i64 (Yx c).st,.slice sa sk so],.int .i64 0]))∧Below w.heap.size w w'):=fun hF w hb=>HMy1.out c hF b w (HWU.out _ hb)
          have HG2:Hid (((Fx c).2=0→(bits .and .i64 (Yx c).fl 8 == 0)=false)→mt=false→∀ c∈l.take (j+1),(Fx c).2=0→(bits .and .i64 (Yx c).fl 8 == 0)=false):=fun hcd hmt c2 hc2=>by
            rw [List.take_add_one,hc,Option.toList_some,List.mem_append] at hc2
            rcases hc2 with hc2|hc2
            · exact hG.out hmt c2 hc2
            · rw [List.mem_singleton] at hc2
              subst hc2
              exact hcd
          clear HFd1 HMy1 hG hc hce hcs2 hjl HOn1 HFI1 HWU HCS HX
          generalize Fx c=Fc at *
          obtain ⟨F1,F2⟩:=Fc
          generalize Yx c=Yc at *
          obtain ⟨yn,yd,yf,yl,ys,yk,yxs⟩:=Yc
          simp only at HF HM2 HG2
          go_wp2
          refine wp_region_class (C:=fun w'=>∃ s,w'=V s) (by kernel_rfl) (by kernel_rfl) (V2.out _ (hB.out.drew)) ?_
          repeat (go_big_quiet_step (first|(go_at_call 24;exact HF.out _)))
          refine wpQuiet_nil ?_
          intro w9 hw9
          obtain ⟨s9,hw9⟩:=hw9
          have B9:Hid (Below U.heap.size U w9):=by rw [hw9];exact V1.out s9
          clear hw9
          have hcr9:=(B9.out.cell (p:=⟨g2,j,none⟩) hgU).trans hcU
          by_cases hF:F2=0
          · subst hF
            have HM:=HM2.out rfl
            have HMH:Hid (∀ w,Below U.heap.size U w→Calls Tryz.prog 17 #[.pointer (some ⟨b,0,none⟩),.agg #[.int .i64 (c:Int),.int .i64 F1]] w fun e w'=>(∃ sa sk so,e=.returned (.tuple #[.agg #[.string yn,.string yd,.int .i64 yf,.int .i64 yl,.int .i64 ys,.slice sa sk so],.int .i64 0]))∧Below w.heap.size w w'):=HM
            clear HM HM2
            cases mt
            case false =>
              cases h8:(bits .and .i64 yf 8 == 0)
              case false =>
                go_wp2_with (go_at_call 17;refine (HMH.out _ B9.out).mono ?_;rintro e w6 ⟨⟨sa2,sk2,so2,rfl⟩,hb⟩;have B6:Hid (Below U.heap.size U w6):=bstep B9.out hb;clear hb HMH)
                go_roundw
                case rel=>exact ⟨j+1,false,by simp,by go_num,by omega,(fun _=>HG2.out (fun _=>h8) trivial),B6.out.alloc B6.out.size _⟩
                case measure=>simp [intOf];omega
              case true =>
                go_wp2_with (go_at_call 17;refine (HMH.out _ B9.out).mono ?_;rintro e w6 ⟨⟨sa2,sk2,so2,rfl⟩,hb⟩;have B6:Hid (Below U.heap.size U w6):=bstep B9.out hb;clear hb HMH)
                go_roundw
                case rel=>exact ⟨j+1,true,by simp,by go_num,by omega,(fun h=>by cases h),B6.out.alloc B6.out.size _⟩
                case measure=>simp [intOf];omega
            case true =>
              go_wp2_with (go_at_call 17;refine (HMH.out _ B9.out).mono ?_;rintro e w6 ⟨⟨sa2,sk2,so2,rfl⟩,hb⟩;have B6:Hid (Below U.heap.size U w6):=bstep B9.out hb;clear hb HMH)
              go_roundw
              case rel=>exact ⟨j+1,true,by simp,by go_num,by omega,(fun h=>by cases h),B6.out.alloc B6.out.size _⟩
              case measure=>simp [intOf];omega
          · have hFb:(F2 == 0)=false:=by simp [hF]
            go_wp2
            go_roundw
            case rel=>exact ⟨j+1,mt,rfl,by go_num,by omega,HG2.out (fun h=>absurd h hF),B9⟩
            case measure=>simp [intOf];omega
        · have e:j=KK:=by omega
          subst e
          have hBw:Below w4.heap.size w4 wr:=bstep BU.out hB.out
          cases mt
          case true =>
            go_wp2
            go_roundw
            case rel=>exact ⟨i+1,by go_num,by omega,hBw⟩
            case measure=>simp [intOf];omega
          case false =>
            obtain ⟨e1,e2,e3,e4⟩:=HFI1.out (by have:=hG.out rfl;rw [← HKL.out,List.take_length] at this;exact this)
            injection e3 with e5 e6
            injection e4 with e7 e8
            have e1:=e1.symm
            have e2:=e2.symm
            have e5:=e5.symm
            have e6:=e6.symm
            have e7:=e7.symm
            have e8:=e8.symm
            subst e1 e2 e5 e6 e7 e8
            have x0:=(hB.out.cell (p:=⟨w5.heap.size,0,none⟩) xL).trans xU0
            have x1':=(hB.out.cell (p:=⟨w5.heap.size,1,none⟩) xL).trans xU1
            have HBW:Hid (Below w4.heap.size w4 wr):=hBw
            clear hBw HFI1 hG HFd1 HMy1 HWU xV0 xV1 V1 V2
            go_upto_region 22 with (go_at_call 78;refine (HOn1.out _ _ (HW4.out _ HBW.out)).mono ?_;rintro e w7 ⟨rfl,hb⟩;have B7:Hid (Below w4.heap.size w4 w7):=bstep HBW.out hb;clear hb HOn1)
            clear σ V hne
            obtain ⟨P,hP⟩:∃ P,P=w7.alloc (.cells #[.int .i64 o1,.int .i64 o2] 24):=⟨_,rfl⟩
            have BP:Hid (Below w4.heap.size w4 P):=by rw [hP];exact B7.out.alloc B7.out.size _
            have hPB:P.heap[w7.heap.size]?=some (.cells #[.int .i64 o1,.int .i64 o2] 24 (0,0)):=by rw [hP];exact halloc1 _ _
            obtain ⟨p0,p1,_,pL⟩:=rw2 hPB
            rw [← hP]
            clear hP hPB B7
            obtain ⟨σ,V,hne,V1,V2⟩:=class_of' (fun w'=>Below P.heap.size P w') ⟨_,Below.refl _ _⟩
            have hgP:g<P.heap.size:=Nat.lt_of_lt_of_le hgl BP.out.size
            have pV0:∀ s,(V s).cell? ⟨w7.heap.size,0,none⟩=some (.int .i64 o1):=fun s=>((V1.out s).cell (p:=⟨w7.heap.size,0,none⟩) pL).trans p0
            have pV1:∀ s,(V s).cell? ⟨w7.heap.size,1,none⟩=some (.int .i64 o2):=fun s=>((V1.out s).cell (p:=⟨w7.heap.size,1,none⟩) pL).trans p1
            have tV2:∀ s,(V s).cell? ⟨g,i * 8+2,none⟩=some (.int .i64 o1):=fun s=>((V1.out s).cell (p:=⟨g,i * 8+2,none⟩) hgP).trans ((BP.out.cell (p:=⟨g,i * 8+2,none⟩) hgl).trans (HCS.out _ _ ((flat8_at T i _ 2 HX.out (by decide)).trans rfl)))
            have tV3:∀ s,(V s).cell? ⟨g,i * 8+3,none⟩=some (.int .i64 o2):=fun s=>((V1.out s).cell (p:=⟨g,i * 8+3,none⟩) hgP).trans ((BP.out.cell (p:=⟨g,i * 8+3,none⟩) hgl).trans (HCS.out _ _ ((flat8_at T i _ 3 HX.out (by decide)).trans rfl)))
            have tV4:∀ s,(V s).cell? ⟨g,i * 8+4,none⟩=some (.int .i64 oe):=fun s=>((V1.out s).cell (p:=⟨g,i * 8+4,none⟩) hgP).trans ((BP.out.cell (p:=⟨g,i * 8+4,none⟩) hgl).trans (HCS.out _ _ ((flat8_at T i _ 4 HX.out (by decide)).trans rfl)))
            have tV5:∀ s,(V s).cell? ⟨g,i * 8+5,none⟩=some (.int .i64 o1):=fun s=>((V1.out s).cell (p:=⟨g,i * 8+5,none⟩) hgP).trans ((BP.out.cell (p:=⟨g,i * 8+5,none⟩) hgl).trans (HCS.out _ _ ((flat8_at T i _ 5 HX.out (by decide)).trans rfl)))
            have tV6:∀ s,(V s).cell? ⟨g,i * 8+6,none⟩=some (.int .i64 o2):=fun s=>((V1.out s).cell (p:=⟨g,i * 8+6,none⟩) hgP).trans ((BP.out.cell (p:=⟨g,i * 8+6,none⟩) hgl).trans (HCS.out _ _ ((flat8_at T i _ 6 HX.out (by decide)).trans rfl)))
            have tV7:∀ s,(V s).cell? ⟨g,i * 8+7,none⟩=some (.int .i64 oe):=fun s=>((V1.out s).cell (p:=⟨g,i * 8+7,none⟩) hgP).trans ((BP.out.cell (p:=⟨g,i * 8+7,none⟩) hgl).trans (HCS.out _ _ ((flat8_at T i _ 7 HX.out (by decide)).trans rfl)))
            have HQ:Hid (∀ (a1 a2:Int) s,Calls Tryz.prog 20 #[.agg #[.int .i64 a1,.int .i64 a2],.agg #[.int .i64 a1,.int .i64 a2]] (V s) fun e w''=>e=.returned (.bool true)∧∃ s',w''=V s'):=fun a1 a2 s=>(SI.out a1 a2 (V s)).mono fun e w'' zz=>⟨zz.1,V2.out _ (bstep (V1.out s) zz.2)⟩
            clear HX HCS
            refine wp_region_class (C:=fun w'=>∃ s,w'=V s) (by kernel_rfl) (by kernel_rfl) (V2.out _ ((Below.refl _ _).drew)) ?_
            repeat (go_big_quiet_step (first|(go_at_call 20;exact HQ.out _ _ _)))
            refine wpQuiet_nil ?_
            intro w9 hw9
            obtain ⟨s9,hw9⟩:=hw9
            have B9:Hid (Below P.heap.size P w9):=by rw [hw9];exact V1.out s9
            clear hw9
            go_wp2
            go_roundw
            case rel=>exact ⟨i+1,by go_num,by omega,bstep BP.out B9.out⟩
            case measure=>simp [intOf];omega
    · have e:i=n:=by omega
      subst e
      go_wp2
      all_goals go_ret
      all_goals exact ⟨retB (by simp),B4.out.trans (BB.out.mono B4.out.size)⟩
theorem ItableDefaults_any (v:Value) (l:List Cls) (id:Int) (W:World) (h:IsClss W v l):Calls Tryz.prog 12 #[v,.int .i64 id] W fun e w'=>e=.returned (.bool true)∧Below W.heap.size W w':=by
  have hWI:WI (wld l):=wld_wi l (clss_w h)
  have hU:UnqM (wld l):=unqM_wld l (clss_w h)
  have HB:∀ w:World,Below W.heap.size W w→Calls Tryz.prog 64 #[v] w fun e w'=>(∃ b,e=.returned (.pointer (some ⟨b,0,none⟩))∧WAt b (wld l) w')∧Below w.heap.size w w':=fun w hb=>(built14_n v l w (clss_keep h hb)).mono fun e w' zz=>by
    obtain ⟨⟨b,e1,mb,vp,pv,hw⟩,hb2⟩:=zz
    exact ⟨⟨b,e1,hw.wat⟩,hb2⟩
  generalize wld l=ps at *
  have HD:∀ x b w,WAt b ps w→Calls Tryz.prog 68 #[.pointer (some ⟨b,0,none⟩),.int .i64 x] w fun e w'=>(∃ v,e=.returned (.tuple #[v,.int .i64 (itE ps x)])∧w'.ownsRow w.heap.size 103 8 v (itT ps x).length (flat8 (itT ps x)))∧Below w.heap.size w w':=fun x b w hw=>build14_c hw hWI x
  have HD1:=HD id
  have hM:∀ (c i:Int) (y:HM),methI ps c i=some y→∀ b w,WAt b ps w→Calls Tryz.prog 17 #[.pointer (some ⟨b,0,none⟩),.agg #[.int .i64 c,.int .i64 i]] w fun e w'=>(∃ sa sk so,e=.returned (.tuple #[.agg #[.string y.nm,.string y.ds,.int .i64 y.fl,.int .i64 y.lo,.int .i64 y.st,.slice sa sk so],.int .i64 0]))∧Below w.heap.size w w':=fun c i y hy b w hw=>by
    have:=mth_e hw hWI.pb c i
    rw [hy] at this
    exact this
  have hCy:∀ (k:Nat) (q:Plc),ps[k]?=some q→∀ b w,WAt b ps w→Calls Tryz.prog 21 #[.pointer (some ⟨b,0,none⟩),.int .i64 (k:Int)] w fun e w'=>(∃ cv,e=.returned (.tuple #[cv,.int .i64 0])∧w'.ownsRow w.heap.size 3 1 cv (chL (ps.map nd) k).length ((chL (ps.map nd) k).map numV))∧Below w.heap.size w w':=fun k q hq b w hw=>by
    obtain ⟨N,mb,vp,pv,hw⟩:=hw
    exact (chain_yes N b mb ps vp pv k (List.getElem?_eq_some_iff.1 hq).1 hWI.wo hWI.hi w hw).mono fun e w' zz=>by
      obtain ⟨cv,e1,e2,e3⟩:=zz
      exact ⟨⟨cv,e1,e2⟩,e3⟩
  rcases it_cases ps id with ⟨h0,k,q,rfl,hq,hf,hr⟩|⟨hT,he⟩
  · rw [h0] at HD1
    have hk:=(List.getElem?_eq_some_iff.1 hq).1
    have hlen:(itT ps (k:Int)).length=(rtsP ps q).length:=by rw [itT,List.length_map,hr]
    have hmem:∀ x∈itT ps (k:Int),x.r∈rtsP ps q∧x=entP ps (k:Int) x.r:=fun x hx=>by
      rw [itT,hr] at hx
      obtain ⟨y,hy,rfl⟩:=List.mem_map.1 hx
      exact ⟨hy,rfl⟩
    have hmt:∀ x∈itT ps (k:Int),methI ps x.r.1 x.r.2=some ((methI ps x.r.1 x.r.2).getD ⟨⟨#[]⟩,⟨#[]⟩,0,0,0,0,[]⟩):=fun x hx=>by
      obtain ⟨m,hm⟩:=rts_meth (hmem x hx).1
      rw [hm];rfl
    refine idf_2 ps W v (k:Int) _ _ rfl (by rw [hlen];exact rts_len hWI hq) (chL (ps.map nd) k) _ rfl (by have:=ch_len hWI.wo k (by rw [List.length_map];exact hk);have:=hWI.hi;omega) (fun x=>(methI ps x.r.1 x.r.2).getD ⟨⟨#[]⟩,⟨#[]⟩,0,0,0,0,[]⟩) (fun x c=>fndI ps (c:Int) ((methI ps x.r.1 x.r.2).getD ⟨⟨#[]⟩,⟨#[]⟩,0,0,0,0,[]⟩).nm ((methI ps x.r.1 x.r.2).getD ⟨⟨#[]⟩,⟨#[]⟩,0,0,0,0,[]⟩).ds) (fun x c=>(methI ps (c:Int) (fndI ps (c:Int) ((methI ps x.r.1 x.r.2).getD ⟨⟨#[]⟩,⟨#[]⟩,0,0,0,0,[]⟩).nm ((methI ps x.r.1 x.r.2).getD ⟨⟨#[]⟩,⟨#[]⟩,0,0,0,0,[]⟩).ds).1).getD ⟨⟨#[]⟩,⟨#[]⟩,0,0,0,0,[]⟩) (fun x=>onI ps (k:Int) ((methI ps x.r.1 x.r.2).getD ⟨⟨#[]⟩,⟨#[]⟩,0,0,0,0,[]⟩).nm ((methI ps x.r.1 x.r.2).getD ⟨⟨#[]⟩,⟨#[]⟩,0,0,0,0,[]⟩).ds) HB HD1 (hCy k q hq) (fun x hx b w hw=>hM _ _ _ (hmt x hx) b w hw) (fun x hx c b w hw=>find_c hw hWI.pb _ _ _) (fun x hx c hF b w hw=>?_) (fun x hx b w hw=>one_c hw hWI _ _ _) (fun x hx hall=>?_)
    · obtain ⟨⟨z,hz,_,_⟩,_⟩:=fnd_facts hF
      simp only at hz
      have:=hM _ _ z hz b w hw
      simp only [hz]
      exact this
    · obtain ⟨hy,e⟩:=hmem x hx
      have hm:=hmt x hx
      obtain ⟨d1,d2⟩:=dflt_facts hWI hU hq hf hy hm (fun c hc hF=>by
        have:=hall c hc hF
        obtain ⟨⟨z,hz,_,_⟩,_⟩:=fnd_facts hF
        simp only at hz
        simp only [hz,Option.getD_some] at this
        rw [hasS,hz]
        show (bits .and .i64 z.fl 8 != 0)=true
        rw [bne,this]
        rfl)
      rw [e,entP]
      simp only [d1,d2]
      exact ⟨trivial,trivial,trivial,trivial⟩
  · have hne:¬ itE ps id=0:=by rcases he with e|e <;> rw [e] <;> decide
    refine idf_1 ps W v id _ _ _ (by simp [hne]) HB HD1 (fun b w hw=>?_)
    rcases plcI_cases ps id with ⟨h1,_⟩|⟨k,q,rfl,hq,_⟩
    · exact (chain_no hw id h1).mono fun e w' zz=>⟨⟨_,_,zz.1⟩,zz.2⟩
    · exact (hCy k q hq b w hw).mono fun e w' zz=>by
        obtain ⟨⟨cv,e1,_⟩,e3⟩:=zz
        exact ⟨⟨cv,_,e1⟩,e3⟩
end Go.Proofs.YthfifobokpfpkaaGreat
