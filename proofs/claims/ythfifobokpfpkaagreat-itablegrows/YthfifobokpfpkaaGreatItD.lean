import Derived.Test.YthfifobokpfpkaaGreatGrB
import Derived.Test.YthfifobokpfpkaaGreatAcE
import Derived.Test.YthfifobokpfpkaaGreatMxC
import Derived.Test.YthfifobokpfpkaaGreatHrS
import Derived.Test.YthfifobokpfpkaaGreatOvP
set_option maxRecDepth 100000
namespace Go.Proofs.YthfifobokpfpkaaGreat
open Go.RowKit Go.Maps
def topB (m:HM):Bool:=((bits .and .i64 m.fl 1 != 0)&&(bits .and .i64 m.fl 8 == 0))&&!(m.nm.toList == [60,105,110,105,116,62])
def iroB (m:HM):Bool:=bits .and .i64 m.fl 10 == 0
def rtK (p:HM→Bool) (k:Int):List HM→Nat→List (Int×Int)
  | [],_=>[]
  | m::r,i=>(if p m then [(k,(i:Int))] else [])++rtK p k r (i+1)
theorem rtK_snoc (p:HM→Bool) (k:Int):∀ (l:List HM) (m:HM) (i:Nat),rtK p k (l++[m]) i=rtK p k l i++(if p m then [(k,((i+l.length:Nat):Int))] else [])
  | [],m,i=>by simp [rtK]
  | x::r,m,i=>by
    rw [List.cons_append,rtK,rtK,rtK_snoc p k r m (i+1),List.append_assoc,List.length_cons,show i+1+r.length=i+(r.length+1) by omega]
theorem rtK_len (p:HM→Bool) (k:Int):∀ (l:List HM) (i:Nat),(rtK p k l i).length≤l.length
  | [],i=>Nat.le_refl _
  | x::r,i=>by
    have:=rtK_len p k r (i+1)
    rw [rtK,List.length_append,List.length_cons]
    split <;> simp <;> omega
theorem rtK_mem (p:HM→Bool) (k:Int):∀ (l:List HM) (i:Nat) (x:Int×Int),x∈rtK p k l i↔∃ (j:Nat) (m:HM),l[j]?=some m∧p m=true∧x=(k,((i+j:Nat):Int))
  | [],i,x=>by simp [rtK]
  | y::r,i,x=>by
    rw [rtK,List.mem_append,rtK_mem p k r (i+1) x]
    constructor
    · rintro (h|⟨j,m,h1,h2,h3⟩)
      · split at h
        · rename_i hp
          rw [List.mem_singleton] at h
          exact ⟨0,y,rfl,hp,by rw [Nat.add_zero];exact h⟩
        · cases h
      · exact ⟨j+1,m,by rw [List.getElem?_cons_succ];exact h1,h2,by rw [h3,show i+(j+1)=i+1+j by omega]⟩
    · rintro ⟨j,m,h1,h2,h3⟩
      cases j with
      | zero =>
        rw [List.getElem?_cons_zero] at h1
        cases h1
        exact .inl (by rw [if_pos h2,List.mem_singleton,h3,Nat.add_zero])
      | succ j =>
        rw [List.getElem?_cons_succ] at h1
        exact .inr ⟨j,m,h1,h2,by rw [h3,show i+(j+1)=i+1+j by omega]⟩
def mtK (ps:List Plc) (k:Nat):List HM:=match ps[k]? with
  | some q=>q.c.ms
  | none=>[]
def rtsP (ps:List Plc) (q:Plc):List (Int×Int):=rtK topB 0 (mtK ps 0) 0++q.cl.flatMap fun k:Nat=>rtK iroB (k:Int) (mtK ps k) 0
def itE (ps:List Plc) (x:Int):Int:=match plcI ps x with
  | none=>3
  | some _=>if ifcI ps x then 23 else 0
def rtsR (ps:List Plc) (x:Int):List (Int×Int):=match plcI ps x with
  | none=>[]
  | some q=>if ifcI ps x then [] else rtsP ps q
theorem it_cases (ps:List Plc) (x:Int):(itE ps x=0∧∃ (k:Nat) (q:Plc),x=(k:Int)∧ps[k]?=some q∧ifcI ps x=false∧rtsR ps x=rtsP ps q)∨(rtsR ps x=[]∧(itE ps x=3∨itE ps x=23)):=by
  rcases plcI_cases ps x with ⟨h1,_⟩|⟨k,q,rfl,h2,h1⟩
  · exact .inr ⟨by rw [rtsR,h1],.inl (by rw [itE,h1])⟩
  · cases hf:ifcI ps (k:Int) with
    | true=>exact .inr ⟨by rw [rtsR,h1];simp [hf],.inr (by rw [itE,h1];simp [hf])⟩
    | false=>exact .inl ⟨by rw [itE,h1];simp [hf],k,q,rfl,h2,rfl,by rw [rtsR,h1];simp [hf]⟩
theorem rts_len {ps:List Plc} (hW:WI ps) {k:Nat} {q:Plc} (hq:ps[k]?=some q):(rtsP ps q).length≤301000000:=by
  have hm:∀ j,(mtK ps j).length≤1000000:=fun j=>by
    rw [mtK]
    split
    · rename_i p hp;exact (hW.pb p (List.mem_of_getElem? hp)).ms
    · exact Nat.zero_le _
  have hcl:q.cl.length≤300:=by
    have h1:clO (ps.map nd) k=q.cl:=by rw [clO,List.getElem?_map,hq];rfl
    have h2:=hW.wo.cl k (nd q) (by rw [List.getElem?_map,hq];rfl)
    have h3:q.cl.length≤ps.length:=by
      have:=List.Nodup.length_le_of_subset h2.1 (l₂:=List.range ps.length) (fun i hi=>List.mem_range.2 (by
        have h5:=(h2.2 i hi).1
        have h6:=(List.getElem?_eq_some_iff.1 hq).1
        omega))
      rw [List.length_range] at this
      exact this
    have:=hW.hi
    omega
  have hf:∀ l:List Nat,(l.flatMap fun k:Nat=>rtK iroB (k:Int) (mtK ps k) 0).length≤l.length * 1000000:=by
    intro l
    induction l with
    | nil=>exact Nat.zero_le _
    | cons x r ih =>
      rw [List.flatMap_cons,List.length_append,List.length_cons]
      have h1:=rtK_len iroB (x:Int) (mtK ps x) 0
      have h2:=hm x
      omega
  rw [rtsP,List.length_append]
  have h1:=rtK_len topB 0 (mtK ps 0) 0
  have h2:=hm 0
  have h3:=hf q.cl
  omega
theorem rts_mem {ps:List Plc} {q:Plc} {x:Int×Int} (h:x∈rtsP ps q):∃ (j i:Nat) (p:Plc) (m:HM),x=((j:Int),(i:Int))∧ps[j]?=some p∧p.c.ms[i]?=some m∧((j=0∧topB m=true)∨(j∈q.cl∧iroB m=true)):=by
  have hk:∀ (P:HM→Bool) (j:Nat),x∈rtK P (j:Int) (mtK ps j) 0→∃ (i:Nat) (p:Plc) (m:HM),x=((j:Int),(i:Int))∧ps[j]?=some p∧p.c.ms[i]?=some m∧P m=true:=by
    intro P j hx
    obtain ⟨i,m,h1,h2,h3⟩:=(rtK_mem _ _ _ _ _).1 hx
    rw [mtK] at h1
    cases hp:ps[j]? with
    | none=>rw [hp] at h1;simp at h1
    | some p =>
      rw [hp] at h1
      exact ⟨i,p,m,by rw [h3,Nat.zero_add],rfl,h1,h2⟩
  rw [rtsP,List.mem_append] at h
  rcases h with h|h
  · obtain ⟨i,p,m,h1,h2,h3,h4⟩:=hk topB 0 h
    exact ⟨0,i,p,m,h1,h2,h3,.inl ⟨rfl,h4⟩⟩
  · obtain ⟨j,hj,hx⟩:=List.mem_flatMap.1 h
    obtain ⟨i,p,m,h1,h2,h3,h4⟩:=hk iroB j hx
    exact ⟨j,i,p,m,h1,h2,h3,.inr ⟨hj,h4⟩⟩
theorem Gr.rts {ps:List Plc} {p:Plc} (h:Gr ps p) {k:Nat} {q:Plc} (hq:ps[k]?=some q):rtsP (ps++[p]) q=rtsP ps q:=by
  have hm:∀ j,j<ps.length→mtK (ps++[p]) j=mtK ps j:=fun j hj=>by rw [mtK,mtK,List.getElem?_append_left hj]
  have h2:=h.wi.wo.cl k (nd q) (by rw [List.getElem?_map,hq];rfl)
  have hk:=(List.getElem?_eq_some_iff.1 hq).1
  rw [rtsP,rtsP,hm 0 (by omega)]
  congr 1
  have:∀ l:List Nat,(∀ i∈l,i<ps.length)→(l.flatMap fun k:Nat=>rtK iroB (k:Int) (mtK (ps++[p]) k) 0)=l.flatMap fun k:Nat=>rtK iroB (k:Int) (mtK ps k) 0:=by
    intro l
    induction l with
    | nil=>intro _;rfl
    | cons x r ih =>
      intro hl
      rw [List.flatMap_cons,List.flatMap_cons,hm x (hl x (by simp)),ih fun i hi=>hl i (List.mem_cons_of_mem _ hi)]
  exact this q.cl fun i hi=>by
    have:=(h2.2 i hi).1
    omega
theorem rts_begins {ps:List Plc} (hW:WI ps) (hJ:WJ ps) {k:Nat} {q s:Plc} (hq:ps[k]?=some q) (hs:ps[q.sp]?=some s):∃ t,rtsP ps q=rtsP ps s++t:=by
  obtain ⟨t,ht⟩:=cl_begins hW hJ hq
  have e:clO (ps.map nd) q.sp=s.cl:=by rw [clO,List.getElem?_map,hs];rfl
  rw [e] at ht
  refine ⟨t.flatMap fun k:Nat=>rtK iroB (k:Int) (mtK ps k) 0,?_⟩
  rw [rtsP,rtsP,← ht,List.flatMap_append,List.append_assoc]
structure Ent where
  r:Int×Int
  m:Int×Int
  e:Int
  v:Int×Int
  f:Int
def entP (ps:List Plc) (id:Int) (x:Int×Int):Ent:=⟨x,(itfI ps id x).1,(itfI ps id x).2,(virI ps id x).1,(virI ps id x).2⟩
def Ent.cells (x:Ent):List Value:=[.int .i64 x.r.1,.int .i64 x.r.2,.int .i64 x.m.1,.int .i64 x.m.2,.int .i64 x.e,.int .i64 x.v.1,.int .i64 x.v.2,.int .i64 x.f]
def Ent.agg (x:Ent):Value:=.agg #[.int .i64 x.r.1,.int .i64 x.r.2,.int .i64 x.m.1,.int .i64 x.m.2,.int .i64 x.e,.int .i64 x.v.1,.int .i64 x.v.2,.int .i64 x.f]
def flat8 (l:List Ent):List Value:=l.flatMap Ent.cells
theorem flat8_app (l r:List Ent):flat8 (l++r)=flat8 l++flat8 r:=List.flatMap_append
theorem flat8_one (l:List Ent):∀ u∈flat8 l,u.oneCell'=true:=by
  intro u hu
  rw [flat8,List.mem_flatMap] at hu
  obtain ⟨x,_,hx⟩:=hu
  simp only [Ent.cells,List.mem_cons,List.not_mem_nil,or_false] at hx
  rcases hx with rfl|rfl|rfl|rfl|rfl|rfl|rfl|rfl <;> rfl
theorem flat8_at:∀ (l:List Ent) (i:Nat) (x:Ent) (j:Nat),l[i]?=some x→j<8→(flat8 l)[i * 8+j]?=x.cells[j]?
  | [],_,_,_,h,_=>by simp at h
  | y::r,0,x,j,h,hj=>by
    simp only [List.getElem?_cons_zero,Option.some.injEq] at h
    subst h
    rw [flat8,List.flatMap_cons,Nat.zero_mul,Nat.zero_add,List.getElem?_append_left (by simp [Ent.cells];omega)]
  | y::r,i+1,x,j,h,hj=>by
    rw [List.getElem?_cons_succ] at h
    rw [flat8,List.flatMap_cons,List.getElem?_append_right (by simp [Ent.cells];omega),show (i+1) * 8+j - (y.cells).length=i * 8+j by simp [Ent.cells];omega]
    exact flat8_at r i x j h hj
def itT (ps:List Plc) (x:Int):List Ent:=(rtsR ps x).map (entP ps x)
theorem Gr.itT {ps:List Plc} {p:Plc} (h:Gr ps p) {k:Nat} {q:Plc} (hq:ps[k]?=some q):Go.Proofs.YthfifobokpfpkaaGreat.itT (ps++[p]) (k:Int)=Go.Proofs.YthfifobokpfpkaaGreat.itT ps (k:Int)∧itE (ps++[p]) (k:Int)=itE ps (k:Int):=by
  have hp:plcI ps (k:Int)=some q:=by rw [plcI_nat];exact hq
  have e1:rtsR (ps++[p]) (k:Int)=rtsR ps (k:Int):=by
    rw [rtsR,rtsR,Gr.plc hp,hp,Gr.ifc hp]
    simp only [h.rts hq]
  refine ⟨?_,by rw [itE,itE,Gr.plc hp,hp,Gr.ifc hp]⟩
  rw [Go.Proofs.YthfifobokpfpkaaGreat.itT,Go.Proofs.YthfifobokpfpkaaGreat.itT,e1]
  refine List.map_congr_left fun x hx=>?_
  have hx2:x∈rtsP ps q:=by
    rw [rtsR,hp] at hx
    simp only at hx
    split at hx
    · cases hx
    · exact hx
  obtain ⟨j,i,s,m,rfl,hs,_,_⟩:=rts_mem hx2
  have hs2:plcI ps ((j:Int),(i:Int)).1=some s:=by show plcI ps (j:Int)=some s;rw [plcI_nat];exact hs
  rw [entP,entP,h.itf hp hs2,h.vir hp hs2]
set_option maxHeartbeats 1000000 in
theorem isTop_c (m:HM) (a:Option Addr) (n s:Nat) (W:World):Calls Tryz.prog 127 #[.agg #[.string m.nm,.string m.ds,.int .i64 m.fl,.int .i64 m.lo,.int .i64 m.st,.slice a n s]] W fun e w'=>e=.returned (.bool (topB m))∧Below W.heap.size W w':=by
  unfold topB
  obtain ⟨mn,md,mf,ml,ms,mk,mx⟩:=m
  simp only
  cases h1:(bits .and .i64 mf 1 != 0)
  case' true=>cases h2:(bits .and .i64 mf 8 == 0)
  case' true.true=>cases h3:(mn.toList == [60,105,110,105,116,62])
  all_goals
    go_enter Tryz.func127,Tryz.ntmps127
    go_wp2
  all_goals go_ret
  all_goals exact ⟨retB (by simp [*]),(by repeat (first|exact Below.refl _ _|refine Below.setCell ?_ (by simp;try omega) _|refine Below.alloc ?_ (by simp;try omega) _|refine Below.drew ?_))⟩
theorem isIro_c (m:HM) (a:Option Addr) (n s:Nat) (W:World):Calls Tryz.prog 128 #[.agg #[.string m.nm,.string m.ds,.int .i64 m.fl,.int .i64 m.lo,.int .i64 m.st,.slice a n s]] W fun e w'=>e=.returned (.bool (iroB m))∧Below W.heap.size W w':=by
  unfold iroB
  go_enter Tryz.func128,Tryz.ntmps128
  go_wp2
  all_goals go_ret
  all_goals exact ⟨retB (by simp),(by repeat (first|exact Below.refl _ _|refine Below.setCell ?_ (by simp;try omega) _|refine Below.alloc ?_ (by simp;try omega) _|refine Below.drew ?_))⟩
set_option maxHeartbeats 2000000 in
theorem closureOf_no {b:Nat} {ps:List Plc} {W:World} (h:WAt b ps W) (x:Int) (hx:¬ itE ps x=0) (hl:ps.length≤300):Calls Tryz.prog 125 #[.pointer (some ⟨b,0,none⟩),.int .i64 x] W fun e w'=>e=.returned (.tuple #[.slice none 0 0,.int .i64 (itE ps x)])∧Below W.heap.size W w':=by
  rcases plcI_cases ps x with ⟨h1,h2⟩|⟨k,q,rfl,hq,h1⟩
  · have e:itE ps x=3:=by rw [itE,h1]
    rw [e]
    have HC:Hid (Calls Tryz.prog 32 #[.pointer (some ⟨b,0,none⟩),.int .i64 x] W fun e w'=>e=.returned (.tuple #[.slice none 0 0,.int .i64 3])∧w'=W):=by
      obtain ⟨N,mb,vp,pv,h⟩:=h
      exact closure_no N b mb ps vp pv x W h h2
    clear h h2 hx e
    go_enter Tryz.func125,Tryz.ntmps125
    go_wp2_with (go_at_call 32;refine HC.out.mono ?_;rintro e w9 ⟨rfl,hw9⟩;rw [hw9];clear hw9 w9)
    exact bodyPost_ret (results_tmp2 rfl _ _ _) rfl ⟨rfl,Below.refl _ _⟩
  · have hf:ifcI ps (k:Int)=true:=by
      cases hf:ifcI ps (k:Int) with
      | true=>rfl
      | false=>exact absurd (by rw [itE,h1];simp [hf]) hx
    have e:itE ps (k:Int)=23:=by rw [itE,h1];simp [hf]
    rw [e]
    have HC:Hid (Calls Tryz.prog 32 #[.pointer (some ⟨b,0,none⟩),.int .i64 (k:Int)] W fun e w'=>∃ v,e=.returned (.tuple #[v,.int .i64 0])∧w'.ownsRow W.heap.size 3 1 v q.cl.length (q.cl.map numV)∧Below W.heap.size W w'):=by
      obtain ⟨N,mb,vp,pv,h⟩:=h
      exact closure_yes N b mb ps vp pv k q W h hq hl
    have HI:Hid (∀ w,Below W.heap.size W w→Calls Tryz.prog 23 #[.pointer (some ⟨b,0,none⟩),.int .i64 (k:Int)] w fun e w'=>e=.returned (.bool true)∧Below w.heap.size w w'):=fun w hb=>by
      have:=isIface_c (h.below hb) (k:Int)
      rw [hf] at this
      exact this
    clear h hq hx e hf
    go_enter Tryz.func125,Tryz.ntmps125
    go_wp2_with (first
      | (go_at_call 32;refine HC.out.mono ?_;rintro e w1 ⟨v,rfl,ho,hb⟩;have B1:Hid (Below W.heap.size W w1):=hb;clear ho hb HC)
      | (go_at_call 23;refine (HI.out _ B1.out).mono ?_;rintro e w2 ⟨rfl,hb⟩;have B2:Hid (Below W.heap.size W w2):=bstep B1.out hb;clear hb HI))
    exact bodyPost_ret (results_tmp2 rfl _ _ _) rfl ⟨rfl,B2.out⟩
set_option maxHeartbeats 2000000 in
theorem closureOf_yes {b:Nat} {ps:List Plc} {W:World} (h:WAt b ps W) (k:Nat) (q:Plc) (hq:ps[k]?=some q) (hf:ifcI ps (k:Int)=false) (hl:ps.length≤300):Calls Tryz.prog 125 #[.pointer (some ⟨b,0,none⟩),.int .i64 (k:Int)] W fun e w'=>∃ v,e=.returned (.tuple #[v,.int .i64 0])∧w'.ownsRow W.heap.size 3 1 v q.cl.length (q.cl.map numV)∧Below W.heap.size W w':=by
  have HC:Hid (Calls Tryz.prog 32 #[.pointer (some ⟨b,0,none⟩),.int .i64 (k:Int)] W fun e w'=>∃ v,e=.returned (.tuple #[v,.int .i64 0])∧w'.ownsRow W.heap.size 3 1 v q.cl.length (q.cl.map numV)∧Below W.heap.size W w'):=by
    obtain ⟨N,mb,vp,pv,h⟩:=h
    exact closure_yes N b mb ps vp pv k q W h hq hl
  have HI:Hid (∀ w,Below W.heap.size W w→Calls Tryz.prog 23 #[.pointer (some ⟨b,0,none⟩),.int .i64 (k:Int)] w fun e w'=>e=.returned (.bool false)∧Below w.heap.size w w'):=fun w hb=>by
    have:=isIface_c (h.below hb) (k:Int)
    rw [hf] at this
    exact this
  obtain ⟨K,hK⟩:∃ K,q.cl.length=K:=⟨_,rfl⟩
  obtain ⟨C,hC⟩:∃ C,q.cl.map numV=C:=⟨_,rfl⟩
  rw [hK,hC] at HC ⊢
  clear h hq hf hK hC
  go_enter Tryz.func125,Tryz.ntmps125
  go_wp2_with (first
    | (go_at_call 32;refine HC.out.mono ?_;rintro e w1 ⟨v,rfl,ho,hb⟩;have O1:Hid (w1.ownsRow W.heap.size 3 1 v K C):=ho;have B1:Hid (Below W.heap.size W w1):=hb;clear ho hb HC)
    | (go_at_call 23;refine (HI.out _ B1.out).mono ?_;rintro e w2 ⟨rfl,hb⟩;have O2:Hid (w2.ownsRow W.heap.size 3 1 v K C):=rowBelow O1.out hb;have B2:Hid (Below W.heap.size W w2):=bstep B1.out hb;clear hb HI O1))
  exact bodyPost_ret (results_tmp2 rfl _ _ _) rfl ⟨_,rfl,O2.out,B2.out⟩
theorem callTop (vs:Array Value) (w:World):(callFunc 127 vs).run Tryz.prog w=.ok (.enter 127 vs) w:=by simp [go_sem]
theorem callIro (vs:Array Value) (w:World):(callFunc 128 vs).run Tryz.prog w=.ok (.enter 128 vs) w:=by simp [go_sem]
set_option maxHeartbeats 8000000 in
theorem rootsIn_w (g:Nat) (eg:∀ args w,(callFunc g args).run Tryz.prog w=.ok (.enter g args) w) (p:HM→Bool) (hp:∀ (m:HM) (a:Option Addr) (n s:Nat) (w:World),Calls Tryz.prog g #[.agg #[.string m.nm,.string m.ds,.int .i64 m.fl,.int .i64 m.lo,.int .i64 m.st,.slice a n s]] w fun e w'=>e=.returned (.bool (p m))∧Below w.heap.size w w') (W:World) (b k:Nat) (q:Plc) (hms:q.c.ms.length≤1000000)
    (HCL:Hid (Calls Tryz.prog 31 #[.pointer (some ⟨b,0,none⟩),.int .i64 (k:Int)] W fun e w'=>(∃ vi vm qm,e=.returned (.tuple #[.agg #[.string q.c.nm,.string q.c.su,vi,.int .i64 q.c.fl,.int .i64 q.c.ld,vm],.int .i64 0])∧OwnC w' W.heap.size vi q.c.ni q.c.xi vm qm∧qm.map Prod.fst=q.c.ms)∧Below W.heap.size W w')) :
    Calls Tryz.prog 126 #[.pointer (some ⟨b,0,none⟩),.int .i64 (k:Int),.func (.func g) #[] #[]] W fun e w'=>(∃ v,e=.returned v∧w'.ownsRow W.heap.size 24 2 v (rtK p (k:Int) q.c.ms 0).length (flatD (rtK p (k:Int) q.c.ms 0)))∧Below W.heap.size W w':=by
  obtain ⟨i0,hi0,hz0,hz1,hz2⟩:=info_parts Tryz.hinfoD
  have HP:Hid (∀ (m:HM) (a:Option Addr) (n s:Nat) (w:World),Calls Tryz.prog g #[.agg #[.string m.nm,.string m.ds,.int .i64 m.fl,.int .i64 m.lo,.int .i64 m.st,.slice a n s]] w fun e w'=>e=.returned (.bool (p m))∧Below w.heap.size w w'):=hp
  clear hp
  go_enter Tryz.func126,Tryz.ntmps126
  go_wp2_with (first
    | (go_at_call 31;refine HCL.out.mono ?_;rintro e w2 ⟨⟨vi,vm,qm,rfl,hoc,hqm⟩,hb⟩;obtain ⟨ia,ic,rfl⟩:=ownv hoc.ifs;obtain ⟨ma,mc,rfl⟩:=ownv hoc.ms;have OM:Hid (w2.ownsRow W.heap.size 30 6 (.slice ma qm.length mc) qm.length (flatH qm)):=hoc.ms;have HQM:Hid (qm.map Prod.fst=q.c.ms):=hqm;have HCOD:Hid (∀ p∈qm,∃ a c,p.2=.slice a p.1.n c):=(fun p hp=>ownv (hoc.cod p hp));have B2:Hid (Below W.heap.size W w2):=hb;clear hb hoc hqm HCL))
  obtain ⟨K,hK⟩:∃ K,qm.length=K:=⟨_,rfl⟩
  have HK:Hid (qm.length=K):=hK
  have hKb:K≤1000000:=by
    have:=congrArg List.length HQM.out
    rw [List.length_map,hK] at this
    omega
  have HKm:Hid (q.c.ms.length=K):=by rw [Hid,← HQM.out,List.length_map,hK]
  rw [hK] at OM ⊢
  obtain ⟨U,hU⟩:∃ U,U=w2.alloc (.cells #[.string q.c.nm,.string q.c.su,.slice ia q.c.ni ic,.int .i64 q.c.fl,.int .i64 q.c.ld,.slice ma K mc] 53):=⟨_,rfl⟩
  have BU:Hid (Below W.heap.size W U):=by rw [hU];exact B2.out.alloc B2.out.size _
  have OMU:Hid (U.ownsRow W.heap.size 30 6 (.slice ma K mc) K (flatH qm)):=by rw [hU];exact OM.out.alloc _
  rw [← hU]
  clear hU hK OM hms B2
  go_loopw [9,21] (fun sv kv wr=>∃ (i:Nat),kv=.int .i64 i∧i≤K∧Hid (wr.ownsRow U.heap.size 24 2 sv (rtK p (k:Int) (q.c.ms.take i) 0).length (flatD (rtK p (k:Int) (q.c.ms.take i) 0)))∧Hid (Below U.heap.size U wr)) (fun _ kv _=>K - (intOf kv).toNat)
  case atStart=>exact ⟨0,rfl,Nat.zero_le _,World.ownsRow_nil _ _ _ _,Below.refl _ _⟩
  case round =>
    obtain ⟨i,rfl,hi,hO,hB⟩:=hrel
    by_cases hlt:i<K
    · have hiI:(i:Int)<(K:Int):=by omega
      obtain ⟨⟨m,um⟩,hm⟩:∃ m,qm[i]?=some m:=⟨_,List.getElem?_eq_getElem (by rw [HK.out];exact hlt)⟩
      have hmm:q.c.ms[i]?=some m:=by rw [← HQM.out,List.getElem?_map,hm];rfl
      obtain ⟨gm,cm,hform⟩:=Go.Joins.ownsRow_form OMU.out (by omega)
      injection hform with hca _ hcc
      subst hca hcc
      obtain ⟨ua,uc,hum⟩:=HCOD.out (m,um) (List.mem_of_getElem? hm)
      simp only at hum
      subst hum
      have hcell:=fun j (hj:j<6)=>((rowBelow OMU.out hB.out).cellAt (i * 6+j) (by have:=flatH_length qm;have:=HK.out;omega)).trans (flatH_at qm i (m,_) hm j hj)
      have c0:=hcell 0 (by omega)
      have c1:=hcell 1 (by omega)
      have c2:=hcell 2 (by omega)
      have c3:=hcell 3 (by omega)
      have c4:=hcell 4 (by omega)
      have c5:=hcell 5 (by omega)
      simp only [hmC,List.getElem?_cons_zero,List.getElem?_cons_succ,Nat.add_zero] at c0 c1 c2 c3 c4 c5
      have hst:rtK p (k:Int) (q.c.ms.take (i+1)) 0=rtK p (k:Int) (q.c.ms.take i) 0++(if p m then [((k:Int),(i:Int))] else []):=by
        have h1:(q.c.ms.take i).length=i:=by rw [List.length_take,HKm.out];omega
        rw [List.take_add_one,hmm,Option.toList_some,rtK_snoc,h1,Nat.zero_add]
      have HC:Hid (∀ w:World,Calls Tryz.prog g #[.agg #[.string m.nm,.string m.ds,.int .i64 m.fl,.int .i64 m.lo,.int .i64 m.st,.slice ua m.n uc]] w fun e w'=>e=.returned (.bool (p m))∧Below w.heap.size w w'):=fun w=>HP.out m ua m.n uc w
      have hal:(rtK p (k:Int) (q.c.ms.take i) 0).length≤1000000:=by
        have:=rtK_len p (k:Int) (q.c.ms.take i) 0
        rw [List.length_take] at this
        omega
      obtain ⟨L,hL⟩:∃ L,rtK p (k:Int) (q.c.ms.take i) 0=L:=⟨_,rfl⟩
      rw [hL] at hst hal hO
      obtain ⟨va,vn,rfl⟩:=ownv hO.out
      have HST:Hid _:=hst
      generalize p m=pm at *
      clear hm hmm hcell hL hst
      cases pm with
      | false =>
        have hst2:rtK p (k:Int) (q.c.ms.take (i+1)) 0=L:=by rw [HST.out];simp
        have HST2:Hid _:=hst2
        clear HST hst2
        go_wp2_with (go_at_fn g;refine (HC.out _).mono ?_;rintro e w3 ⟨rfl,hb⟩;have B3:Hid (Below U.heap.size U w3):=bstep (hB.out.alloc hB.out.size _) hb;have O3:Hid (w3.ownsRow U.heap.size 24 2 (.slice va L.length vn) L.length (flatD L)):=rowBelow (hO.out.alloc _) hb;clear hb HC)
        refine ⟨⟨i+1,by simp,by omega,?_,B3⟩,by simp [intOf];omega⟩
        rw [HST2.out];exact O3
      | true =>
        have hst2:rtK p (k:Int) (q.c.ms.take (i+1)) 0=L++[((k:Int),(i:Int))]:=by rw [HST.out,if_pos rfl]
        have HST2:Hid _:=hst2
        clear HST hst2
        go_wp2_with (first
          | (go_at_fn g;refine (HC.out _).mono ?_;rintro e w3 ⟨rfl,hb⟩;have B3:Hid (Below U.heap.size U w3):=bstep (hB.out.alloc hB.out.size _) hb;have O3:Hid (w3.ownsRow U.heap.size 24 2 (.slice va L.length vn) L.length (flatD L)):=rowBelow (hO.out.alloc _) hb;clear hb HC)
          | (at_builtin;refine wpList_append_own _ rfl _ _ 34 rfl U.heap.size 24 i0 (.agg #[.int .i64 0,.int .i64 0]) 2 16 Tryz.underlying34 hi0 hz0 hz1 hz2 rfl (by decide) (.slice va L.length vn) L.length (flatD L) rfl (O3.out.alloc _) ⟨w3.heap.size,0,none⟩ 1 1 [.int .i64 (k:Int),.int .i64 (i:Int)] rfl rfl ?c1 ?c2 ?c3 ?c4 ?c5 ?_))
        case c1=>intro jj u hj;rw [addr_add];match jj,hj with
          | 0,hj=>simp at hj;subst hj;simp [go_sem]
          | 1,hj=>simp at hj;subst hj;simp [go_sem]
          | (jj+2),hj=>simp at hj
        case c2=>intro u hu;simp at hu;rcases hu with rfl|rfl <;> rfl
        case c3=>unfold maxLen;omega
        case c4=>omega
        case c5=>have:=B3.out.size;simp;omega
        intro v' w4 hown hgrow _
        obtain ⟨va2,vn2,rfl⟩:=ownv hown
        have B4:Hid (Below U.heap.size U w4):=by
          have hb1:Below U.heap.size U (w3.alloc (.cells #[.int .i64 (k:Int),.int .i64 (i:Int)] 24)):=B3.out.alloc B3.out.size _
          refine hb1.grown hgrow hb1.size (fun x hx=>?_)
          have:=(O3.out.lt x hx).1
          omega
        have O4:Hid (w4.ownsRow U.heap.size 24 2 (.slice va2 (L.length+1) vn2) (L++[((k:Int),(i:Int))]).length (flatD (L++[((k:Int),(i:Int))]))):=by
          rw [Hid,List.length_append,flatD_app];exact hown
        go_wp2
        refine ⟨⟨i+1,by simp,by omega,?_,B4⟩,by simp [intOf];omega⟩
        rw [HST2.out];exact O4
    · have e:i=K:=by omega
      subst e
      have HE:Hid (rtK p (k:Int) (q.c.ms.take i) 0=rtK p (k:Int) q.c.ms 0):=by rw [Hid,List.take_of_length_le (by rw [HKm.out];exact Nat.le_refl _)]
      rw [HE.out] at hO
      obtain ⟨va,vn,rfl⟩:=ownv hO.out
      go_wp2
      exact bodyPost_ret (results_tmp rfl _ _ _) rfl ⟨⟨_,rfl,Go.Joins.ownsRow_le hO.out BU.out.size⟩,BU.out.trans (hB.out.mono BU.out.size)⟩
theorem rootsTop_c {b:Nat} {ps:List Plc} {W:World} (h:WAt b ps W) (hW:WI ps) (k:Nat) (hk:k<ps.length):Calls Tryz.prog 126 #[.pointer (some ⟨b,0,none⟩),.int .i64 (k:Int),.func (.func 127) #[] #[]] W fun e w'=>(∃ v,e=.returned v∧w'.ownsRow W.heap.size 24 2 v (rtK topB (k:Int) (mtK ps k) 0).length (flatD (rtK topB (k:Int) (mtK ps k) 0)))∧Below W.heap.size W w':=by
  have hq:ps[k]?=some ps[k]:=List.getElem?_eq_getElem hk
  have e:mtK ps k=ps[k].c.ms:=by rw [mtK,hq]
  rw [e]
  refine rootsIn_w 127 callTop topB isTop_c W b k ps[k] (hW.pb _ (List.mem_of_getElem? hq)).ms ?_
  have:=class_c h hW.pb (k:Int)
  rw [plcI_nat,hq] at this
  exact this
theorem rootsIro_c {b:Nat} {ps:List Plc} {W:World} (h:WAt b ps W) (hW:WI ps) (k:Nat) (hk:k<ps.length):Calls Tryz.prog 126 #[.pointer (some ⟨b,0,none⟩),.int .i64 (k:Int),.func (.func 128) #[] #[]] W fun e w'=>(∃ v,e=.returned v∧w'.ownsRow W.heap.size 24 2 v (rtK iroB (k:Int) (mtK ps k) 0).length (flatD (rtK iroB (k:Int) (mtK ps k) 0)))∧Below W.heap.size W w':=by
  have hq:ps[k]?=some ps[k]:=List.getElem?_eq_getElem hk
  have e:mtK ps k=ps[k].c.ms:=by rw [mtK,hq]
  rw [e]
  refine rootsIn_w 128 callIro iroB isIro_c W b k ps[k] (hW.pb _ (List.mem_of_getElem? hq)).ms ?_
  have:=class_c h hW.pb (k:Int)
  rw [plcI_nat,hq] at this
  exact this
set_option maxHeartbeats 8000000 in
theorem roots_yes {b:Nat} {ps:List Plc} {W:World} (h:WAt b ps W) (hW:WI ps) (k:Nat) (q:Plc) (hq:ps[k]?=some q) (hf:ifcI ps (k:Int)=false):Calls Tryz.prog 65 #[.pointer (some ⟨b,0,none⟩),.int .i64 (k:Int)] W fun e w'=>(∃ v,e=.returned (.tuple #[v,.int .i64 0])∧w'.ownsRow W.heap.size 24 2 v (rtsP ps q).length (flatD (rtsP ps q)))∧Below W.heap.size W w':=by
  obtain ⟨i0,hi0,hz0,hz1,hz2⟩:=info_parts Tryz.hinfoD
  have hk:=(List.getElem?_eq_some_iff.1 hq).1
  have hcl:=hW.wo.cl k (nd q) (by rw [List.getElem?_map,hq];rfl)
  have HCB:Hid (∀ i∈q.cl,i<ps.length):=fun i hi=>by
    have:=(hcl.2 i hi).1
    omega
  have hKb:q.cl.length≤300:=by
    have:=List.Nodup.length_le_of_subset hcl.1 (l₂:=List.range ps.length) (fun i hi=>List.mem_range.2 (HCB.out i hi))
    rw [List.length_range] at this
    have h2:=hW.hi
    have h3:q.cl.length≤ps.length:=this
    omega
  have hmt:∀ j,(mtK ps j).length≤1000000:=fun j=>by
    rw [mtK]
    split
    · rename_i p hp;exact (hW.pb p (List.mem_of_getElem? hp)).ms
    · exact Nat.zero_le _
  have HRL:Hid (∀ l:List Nat,(rtK topB 0 (mtK ps 0) 0++l.flatMap fun k:Nat=>rtK iroB (k:Int) (mtK ps k) 0).length≤1000000+l.length * 1000000):=fun l=>by
    have hf:∀ l:List Nat,(l.flatMap fun k:Nat=>rtK iroB (k:Int) (mtK ps k) 0).length≤l.length * 1000000:=by
      intro l
      induction l with
      | nil=>exact Nat.zero_le _
      | cons x r ih =>
        rw [List.flatMap_cons,List.length_append,List.length_cons]
        have h1:=rtK_len iroB (x:Int) (mtK ps x) 0
        have h2:=hmt x
        omega
    rw [List.length_append]
    have h1:=rtK_len topB 0 (mtK ps 0) 0
    have h2:=hmt 0
    have h3:=hf l
    omega
  have HMT:Hid (∀ j,(mtK ps j).length≤1000000):=hmt
  have HCO:Hid (Calls Tryz.prog 125 #[.pointer (some ⟨b,0,none⟩),.int .i64 (k:Int)] W fun e w'=>∃ v,e=.returned (.tuple #[v,.int .i64 0])∧w'.ownsRow W.heap.size 3 1 v q.cl.length (q.cl.map numV)∧Below W.heap.size W w'):=closureOf_yes h k q hq hf hW.hi
  have HTP:Hid (∀ w,Below W.heap.size W w→Calls Tryz.prog 126 #[.pointer (some ⟨b,0,none⟩),.int .i64 0,.func (.func 127) #[] #[]] w fun e w'=>(∃ v,e=.returned v∧w'.ownsRow w.heap.size 24 2 v (rtK topB 0 (mtK ps 0) 0).length (flatD (rtK topB 0 (mtK ps 0) 0)))∧Below w.heap.size w w'):=fun w hb=>rootsTop_c (h.below hb) hW 0 (by omega)
  have HIR:Hid (∀ (i:Nat) w,i<ps.length→Below W.heap.size W w→Calls Tryz.prog 126 #[.pointer (some ⟨b,0,none⟩),.int .i64 (i:Int),.func (.func 128) #[] #[]] w fun e w'=>(∃ v,e=.returned v∧w'.ownsRow w.heap.size 24 2 v (rtK iroB (i:Int) (mtK ps i) 0).length (flatD (rtK iroB (i:Int) (mtK ps i) 0)))∧Below w.heap.size w w'):=fun i w hi hb=>rootsIro_c (h.below hb) hW i hi
  obtain ⟨K,hK⟩:∃ K,q.cl.length=K:=⟨_,rfl⟩
  have HK:Hid (q.cl.length=K):=hK
  rw [hK] at hKb
  clear h hW hq hf hcl hmt hK hk
  go_enter Tryz.func65,Tryz.ntmps65
  go_wp2_with (first
    | (go_at_call 125;refine HCO.out.mono ?_;rintro e w1 ⟨v,rfl,ho,hb⟩;rw [HK.out] at ho;obtain ⟨ca,cc,rfl⟩:=ownv ho;have O1:Hid (w1.ownsRow W.heap.size 3 1 (.slice ca K cc) K (q.cl.map numV)):=ho;have B1:Hid (Below W.heap.size W w1):=hb;clear ho hb HCO)
    | (go_at_call 126;refine (HTP.out _ B1.out).mono ?_;rintro e w2 ⟨⟨v,rfl,ho⟩,hb⟩;have R2:Hid (w2.ownsRow w1.heap.size 24 2 v (rtK topB 0 (mtK ps 0) 0).length (flatD (rtK topB 0 (mtK ps 0) 0))):=ho;have B2:Hid (Below w1.heap.size w1 w2):=hb;clear ho hb HTP))
  go_loopw [8,24] (fun sv kv wr=>∃ (j:Nat),kv=.int .i64 j∧j≤K∧Hid (wr.ownsRow w1.heap.size 24 2 sv (rtK topB 0 (mtK ps 0) 0++(q.cl.take j).flatMap fun k:Nat=>rtK iroB (k:Int) (mtK ps k) 0).length (flatD (rtK topB 0 (mtK ps 0) 0++(q.cl.take j).flatMap fun k:Nat=>rtK iroB (k:Int) (mtK ps k) 0)))∧Hid (Below w1.heap.size w1 wr)) (fun _ kv _=>K - (intOf kv).toNat)
  case atStart=>exact ⟨0,rfl,Nat.zero_le _,(by have:=R2.out;rw [Hid,List.take_zero,List.flatMap_nil,List.append_nil];exact this),B2⟩
  case round =>
    clear R2 B2
    obtain ⟨j,rfl,hj,hO,hB⟩:=hrel
    by_cases hlt:j<K
    · have hjI:(j:Int)<(K:Int):=by omega
      have hjl:j<q.cl.length:=by rw [HK.out];exact hlt
      obtain ⟨i,hi⟩:∃ i,q.cl[j]?=some i:=⟨_,List.getElem?_eq_getElem hjl⟩
      obtain ⟨g,c2,hform⟩:=Go.Joins.ownsRow_form O1.out (by omega)
      have hce:w1.cell? ⟨g,j,none⟩=some (.int .i64 (i:Int)):=by
        have hrow:=O1.out
        rw [hform] at hrow
        rw [hrow.cellAt j (by omega),List.getElem?_map,hi];rfl
      injection hform with hca _ hcc
      subst hca hcc
      have hgl:g<w1.heap.size:=World.block_lt_of_cell? w1 _ hce
      have hcr:=(hB.out.cell (p:=⟨g,j,none⟩) hgl).trans hce
      have HC:=HIR.out i wr (HCB.out i (List.mem_of_getElem? hi)) (bstep B1.out hB.out)
      have hst:(rtK topB 0 (mtK ps 0) 0++(q.cl.take (j+1)).flatMap fun k:Nat=>rtK iroB (k:Int) (mtK ps k) 0)=(rtK topB 0 (mtK ps 0) 0++(q.cl.take j).flatMap fun k:Nat=>rtK iroB (k:Int) (mtK ps k) 0)++rtK iroB (i:Int) (mtK ps i) 0:=by
        rw [List.take_add_one,hi,Option.toList_some,List.flatMap_append,List.flatMap_cons,List.flatMap_nil,List.append_nil,List.append_assoc]
      have hal:(rtK topB 0 (mtK ps 0) 0++(q.cl.take j).flatMap fun k:Nat=>rtK iroB (k:Int) (mtK ps k) 0).length≤301000000:=by
        have:=HRL.out (q.cl.take j)
        rw [List.length_take] at this
        omega
      have hnl:(rtK iroB (i:Int) (mtK ps i) 0).length≤1000000:=Nat.le_trans (rtK_len _ _ _ _) (HMT.out i)
      obtain ⟨L,hL⟩:∃ L,(rtK topB 0 (mtK ps 0) 0++(q.cl.take j).flatMap fun k:Nat=>rtK iroB (k:Int) (mtK ps k) 0)=L:=⟨_,rfl⟩
      obtain ⟨M,hM⟩:∃ M,rtK iroB (i:Int) (mtK ps i) 0=M:=⟨_,rfl⟩
      rw [hL] at hst hal hO
      rw [hM] at hst hnl HC
      have HST:Hid ((rtK topB 0 (mtK ps 0) 0++(q.cl.take (j+1)).flatMap fun k:Nat=>rtK iroB (k:Int) (mtK ps k) 0)=L++M):=hst
      have HCH:Hid (Calls Tryz.prog 126 #[.pointer (some ⟨b,0,none⟩),.int .i64 (i:Int),.func (.func 128) #[] #[]] wr fun e w'=>(∃ v,e=.returned v∧w'.ownsRow wr.heap.size 24 2 v M.length (flatD M))∧Below wr.heap.size wr w'):=HC
      obtain ⟨va,vn,rfl⟩:=ownv hO.out
      clear hce hi hjl hL hM hst HC
      go_wp2_with (first
        | (go_at_call 126;refine HCH.out.mono ?_;rintro e w3 ⟨⟨vx,rfl,ho⟩,hb⟩;have X3:Hid (w3.ownsRow wr.heap.size 24 2 vx M.length (flatD M)):=ho;have B3:Hid (Below w1.heap.size w1 w3):=bstep hB.out hb;have O3:Hid (w3.ownsRow w1.heap.size 24 2 (.slice va L.length vn) L.length (flatD L)):=rowBelow hO.out hb;clear ho hb HCH)
        | (at_builtin;refine wpList_append_rdw rfl _ _ 34 rfl w1.heap.size 24 i0 (.agg #[.int .i64 0,.int .i64 0]) 2 16 Tryz.underlying34 hi0 hz0 hz1 hz2 rfl (by decide) (.slice va L.length vn) L.length (flatD L) rfl O3.out vx M.length (flatD M) rfl (.inl (own_rds X3.out)) (flatD_one M) ?c1 ?c2 ?c3 ?_))
      case c1=>unfold maxLen;omega
      case c2=>omega
      case c3=>exact B3.out.size
      intro v' w4 hown hgrow
      obtain ⟨va2,vn2,rfl⟩:=ownv hown
      have B4:Hid (Below w1.heap.size w1 w4):=by
        refine B3.out.grown hgrow B3.out.size (fun x hx=>?_)
        have:=(O3.out.lt x hx).1
        omega
      have O4:Hid (w4.ownsRow w1.heap.size 24 2 (.slice va2 (L.length+M.length) vn2) (L++M).length (flatD (L++M))):=by
        rw [Hid,List.length_append,flatD_app];exact hown
      go_wp2
      refine ⟨⟨j+1,by simp,by omega,?_,B4⟩,by simp [intOf];omega⟩
      rw [HST.out];exact O4
    · have e:j=K:=by omega
      subst e
      have HE:Hid ((rtK topB 0 (mtK ps 0) 0++(q.cl.take j).flatMap fun k:Nat=>rtK iroB (k:Int) (mtK ps k) 0)=rtsP ps q):=by rw [Hid,List.take_of_length_le (by rw [HK.out];exact Nat.le_refl _),rtsP]
      rw [HE.out] at hO
      obtain ⟨va,vn,rfl⟩:=ownv hO.out
      go_wp2
      exact bodyPost_ret (results_tmp2 rfl _ _ _) rfl ⟨⟨_,rfl,Go.Joins.ownsRow_le hO.out B1.out.size⟩,B1.out.trans (hB.out.mono B1.out.size)⟩
theorem roots_no {b:Nat} {ps:List Plc} {W:World} (h:WAt b ps W) (hW:WI ps) (x:Int) (hx:¬ itE ps x=0):Calls Tryz.prog 65 #[.pointer (some ⟨b,0,none⟩),.int .i64 x] W fun e w'=>e=.returned (.tuple #[.slice none 0 0,.int .i64 (itE ps x)])∧Below W.heap.size W w':=by
  have HCO:Hid (Calls Tryz.prog 125 #[.pointer (some ⟨b,0,none⟩),.int .i64 x] W fun e w'=>e=.returned (.tuple #[.slice none 0 0,.int .i64 (itE ps x)])∧Below W.heap.size W w'):=closureOf_no h x hx hW.hi
  generalize itE ps x=E at *
  have hE:(E == 0)=false:=by simp [hx]
  clear h hW
  go_enter Tryz.func65,Tryz.ntmps65
  go_wp2_with (go_at_call 125;refine HCO.out.mono ?_;rintro e w1 ⟨rfl,hb⟩;have B1:Hid (Below W.heap.size W w1):=hb;clear hb HCO)
  exact bodyPost_ret (results_tmp2 rfl _ _ _) rfl ⟨rfl,B1.out⟩
theorem roots_c {b:Nat} {ps:List Plc} {W:World} (h:WAt b ps W) (hW:WI ps) (x:Int):Calls Tryz.prog 65 #[.pointer (some ⟨b,0,none⟩),.int .i64 x] W fun e w'=>(∃ v,e=.returned (.tuple #[v,.int .i64 (itE ps x)])∧w'.ownsRow W.heap.size 24 2 v (rtsR ps x).length (flatD (rtsR ps x)))∧Below W.heap.size W w':=by
  rcases it_cases ps x with ⟨h0,k,q,rfl,hq,hf,hr⟩|⟨hr,he⟩
  · rw [h0,hr]
    exact roots_yes h hW k q hq hf
  · rw [hr]
    exact (roots_no h hW x (by rcases he with e|e <;> rw [e] <;> decide)).mono fun e w' zz=>⟨⟨_,zz.1,World.ownsRow_nil _ _ _ _⟩,zz.2⟩
theorem rw8 {w:World} {n:Nat} {t:TypeId} {a0 a1 a2 a3 a4 a5 a6 a7:Value} (h:w.heap[n]?=some (.cells #[a0,a1,a2,a3,a4,a5,a6,a7] t (0,0))):w.cell? ⟨n,0,none⟩=some a0∧w.cell? ⟨n,1,none⟩=some a1∧w.cell? ⟨n,2,none⟩=some a2∧w.cell? ⟨n,3,none⟩=some a3∧w.cell? ⟨n,4,none⟩=some a4∧w.cell? ⟨n,5,none⟩=some a5∧w.cell? ⟨n,6,none⟩=some a6∧w.cell? ⟨n,7,none⟩=some a7∧(∀ k,w.frozen? ⟨n,k,none⟩=false)∧n<w.heap.size :=
  ⟨(cell_of_row w n 0 _ _ _ h).trans rfl,(cell_of_row w n 1 _ _ _ h).trans rfl,(cell_of_row w n 2 _ _ _ h).trans rfl,(cell_of_row w n 3 _ _ _ h).trans rfl,(cell_of_row w n 4 _ _ _ h).trans rfl,(cell_of_row w n 5 _ _ _ h).trans rfl,(cell_of_row w n 6 _ _ _ h).trans rfl,(cell_of_row w n 7 _ _ _ h).trans rfl,fun k=>frozen_of_row w n k _ _ h,(Array.getElem?_eq_some_iff.1 h).1⟩
theorem kp8 {V w:World} {N n:Nat} {t:TypeId} {a0 a1 a2 a3 a4 a5 a6 a7:Value} (hb:Below N V w) (hn:n<N) (h:V.heap[n]?=some (.cells #[a0,a1,a2,a3,a4,a5,a6,a7] t (0,0))):Hid (w.heap[n]?=some (.cells #[a0,a1,a2,a3,a4,a5,a6,a7] t (0,0)))∧w.cell? ⟨n,0,none⟩=some a0∧w.cell? ⟨n,1,none⟩=some a1∧w.cell? ⟨n,2,none⟩=some a2∧w.cell? ⟨n,3,none⟩=some a3∧w.cell? ⟨n,4,none⟩=some a4∧w.cell? ⟨n,5,none⟩=some a5∧w.cell? ⟨n,6,none⟩=some a6∧w.cell? ⟨n,7,none⟩=some a7∧(∀ k,w.frozen? ⟨n,k,none⟩=false)∧n<w.heap.size∧¬ n=w.heap.size:=by
  have h2:=(hb.block n hn).trans h
  obtain ⟨c0,c1,c2,c3,c4,c5,c6,c7,f,l⟩:=rw8 h2
  exact ⟨h2,c0,c1,c2,c3,c4,c5,c6,c7,f,l,by omega⟩
theorem st8 {w:World} {n:Nat} {t:TypeId} {a0 a1 a2 a3 a4 a5 a6 a7:Value} (h:w.heap[n]?=some (.cells #[a0,a1,a2,a3,a4,a5,a6,a7] t (0,0))) (v2 v3 v4:Value):(((w.setCell ⟨n,2,none⟩ v2).setCell ⟨n,3,none⟩ v3).setCell ⟨n,4,none⟩ v4).heap[n]?=some (.cells #[a0,a1,v2,v3,v4,a5,a6,a7] t (0,0)):=by
  have h0:=Go.Joins.block_setCell (i:=2) h v2
  have h1:=Go.Joins.block_setCell (i:=3) h0 v3
  have h2:=Go.Joins.block_setCell (i:=4) h1 v4
  exact h2.trans (by simp)
theorem ot8 {w:World} {m k:Nat} {v2 v3 v4:Value} (h:¬ k=m):(((w.setCell ⟨m,2,none⟩ v2).setCell ⟨m,3,none⟩ v3).setCell ⟨m,4,none⟩ v4).heap[k]?=w.heap[k]?:=by
  rw [heap_setCell_other _ _ _ _ (by simp;omega),heap_setCell_other _ _ _ _ (by simp;omega),heap_setCell_other _ _ _ _ (by simp;omega)]
set_option maxHeartbeats 2000000 in
theorem chI_n (W:World) (b:Nat) (r c i m1 m2 ee:Int) (HC:Hid (∀ w,Below W.heap.size W w→Calls Tryz.prog 76 #[.pointer (some ⟨b,0,none⟩),.int .i64 r,.agg #[.int .i64 c,.int .i64 i]] w fun e w'=>e=.returned (.tuple #[.agg #[.int .i64 m1,.int .i64 m2],.int .i64 ee])∧Below w.heap.size w w')):Calls Tryz.prog 315 #[.agg #[],.pointer (some ⟨b,0,none⟩),.int .i64 r,.agg #[.int .i64 c,.int .i64 i]] W fun e w'=>e=.returned (.tuple #[.agg #[.int .i64 m1,.int .i64 m2],.int .i64 ee])∧Below W.heap.size W w':=by
  go_enter Tryz.func315,Tryz.ntmps315
  go_wp2_with (first
    | (go_at_call 76;refine (HC.out _ (by repeat (first|exact Below.refl _ _|refine Below.setCell ?_ (by simp;try omega) _|refine Below.alloc ?_ (by simp;try omega) _|refine Below.drew ?_))).mono ?_;rintro e w1 ⟨rfl,hb⟩;have zzd:=kp2 (n:=W.heap.size+1+1) hb;(try clear zzB zz0 zz1 zzf zzL zzN);obtain ⟨zzB,zz0,zz1,zzf,zzL,zzN⟩:=zzd;have B1:Hid (Below W.heap.size W w1):=bstep (by repeat (first|exact Below.refl _ _|refine Below.setCell ?_ (by simp;try omega) _|refine Below.alloc ?_ (by simp;try omega) _|refine Below.drew ?_)) hb;clear hb HC))
  exact bodyPost_ret (v:=.tuple #[.agg #[.int .i64 m1,.int .i64 m2],.int .i64 ee]) (by simp [results,Tryz.results315,go_sem, *]) rfl ⟨rfl,(by repeat (first|refine Below.setCell ?_ (by simp;try omega) _|refine Below.alloc ?_ (by have:=B1.out.size;simp;try omega) _|refine Below.drew ?_|exact B1.out))⟩
set_option maxHeartbeats 2000000 in
theorem seI_n (W:World) (b:Nat) (r c i m1 m2 ee:Int) (HC:Hid (∀ w,Below W.heap.size W w→Calls Tryz.prog 315 #[.agg #[],.pointer (some ⟨b,0,none⟩),.int .i64 r,.agg #[.int .i64 c,.int .i64 i]] w fun e w'=>e=.returned (.tuple #[.agg #[.int .i64 m1,.int .i64 m2],.int .i64 ee])∧Below w.heap.size w w')):Calls Tryz.prog 132 #[.pointer (some ⟨b,0,none⟩),.int .i64 r,.agg #[.int .i64 c,.int .i64 i]] W fun e w'=>e=.returned (.tuple #[.agg #[.int .i64 m1,.int .i64 m2],.int .i64 ee])∧Below W.heap.size W w':=by
  go_enter Tryz.func132,Tryz.ntmps132
  go_wp2_with (first
    | (go_at_call 315;refine (HC.out _ (by repeat (first|exact Below.refl _ _|refine Below.setCell ?_ (by simp;try omega) _|refine Below.alloc ?_ (by simp;try omega) _|refine Below.drew ?_))).mono ?_;rintro e w1 ⟨rfl,hb⟩;have zzd:=kp2 (n:=W.heap.size+1) hb (by first|omega|(simp;try omega)) (hkeep (halloc2 _ _ (by simp)));(try clear zzB zz0 zz1 zzf zzL zzN);obtain ⟨zzB,zz0,zz1,zzf,zzL,zzN⟩:=zzd;have B1:Hid (Below W.heap.size W w1):=bstep (by repeat (first|exact Below.refl _ _|refine Below.setCell ?_ (by simp;try omega) _|refine Below.alloc ?_ (by simp;try omega) _|refine Below.drew ?_)) hb;clear hb HC))
  exact bodyPost_ret (v:=.tuple #[.agg #[.int .i64 m1,.int .i64 m2],.int .i64 ee]) (by simp [results,Tryz.results132,go_sem, *]) rfl ⟨rfl,(by repeat (first|refine Below.setCell ?_ (by simp;try omega) _|refine Below.alloc ?_ (by have:=B1.out.size;simp;try omega) _|refine Below.drew ?_|exact B1.out))⟩
theorem seI_c {b:Nat} {ps:List Plc} {W:World} (h:WAt b ps W) (hW:WI ps) (r c i:Int):Calls Tryz.prog 132 #[.pointer (some ⟨b,0,none⟩),.int .i64 r,.agg #[.int .i64 c,.int .i64 i]] W fun e w'=>e=.returned (.tuple #[.agg #[.int .i64 (itfI ps r (c,i)).1.1,.int .i64 (itfI ps r (c,i)).1.2],.int .i64 (itfI ps r (c,i)).2])∧Below W.heap.size W w' :=
  seI_n W b r c i _ _ _ (fun w hb=>chI_n w b r c i _ _ _ (fun _ hb2=>itf_c ((h.below hb).below hb2) hW r c i))
set_option maxHeartbeats 2000000 in
theorem chV_n (W:World) (b:Nat) (r c i m1 m2 ee:Int) (HC:Hid (∀ w,Below W.heap.size W w→Calls Tryz.prog 77 #[.pointer (some ⟨b,0,none⟩),.int .i64 r,.agg #[.int .i64 c,.int .i64 i]] w fun e w'=>e=.returned (.tuple #[.agg #[.int .i64 m1,.int .i64 m2],.int .i64 ee])∧Below w.heap.size w w')):Calls Tryz.prog 316 #[.agg #[],.pointer (some ⟨b,0,none⟩),.int .i64 r,.agg #[.int .i64 c,.int .i64 i]] W fun e w'=>e=.returned (.tuple #[.agg #[.int .i64 m1,.int .i64 m2],.int .i64 ee])∧Below W.heap.size W w':=by
  go_enter Tryz.func316,Tryz.ntmps316
  go_wp2_with (first
    | (go_at_call 77;refine (HC.out _ (by repeat (first|exact Below.refl _ _|refine Below.setCell ?_ (by simp;try omega) _|refine Below.alloc ?_ (by simp;try omega) _|refine Below.drew ?_))).mono ?_;rintro e w1 ⟨rfl,hb⟩;have zzd:=kp2 (n:=W.heap.size+1+1) hb;(try clear zzB zz0 zz1 zzf zzL zzN);obtain ⟨zzB,zz0,zz1,zzf,zzL,zzN⟩:=zzd;have B1:Hid (Below W.heap.size W w1):=bstep (by repeat (first|exact Below.refl _ _|refine Below.setCell ?_ (by simp;try omega) _|refine Below.alloc ?_ (by simp;try omega) _|refine Below.drew ?_)) hb;clear hb HC))
  exact bodyPost_ret (v:=.tuple #[.agg #[.int .i64 m1,.int .i64 m2],.int .i64 ee]) (by simp [results,Tryz.results316,go_sem, *]) rfl ⟨rfl,(by repeat (first|refine Below.setCell ?_ (by simp;try omega) _|refine Below.alloc ?_ (by have:=B1.out.size;simp;try omega) _|refine Below.drew ?_|exact B1.out))⟩
set_option maxHeartbeats 2000000 in
theorem seV_n (W:World) (b:Nat) (r c i m1 m2 ee:Int) (HC:Hid (∀ w,Below W.heap.size W w→Calls Tryz.prog 316 #[.agg #[],.pointer (some ⟨b,0,none⟩),.int .i64 r,.agg #[.int .i64 c,.int .i64 i]] w fun e w'=>e=.returned (.tuple #[.agg #[.int .i64 m1,.int .i64 m2],.int .i64 ee])∧Below w.heap.size w w')):Calls Tryz.prog 175 #[.pointer (some ⟨b,0,none⟩),.int .i64 r,.agg #[.int .i64 c,.int .i64 i]] W fun e w'=>e=.returned (.tuple #[.agg #[.int .i64 m1,.int .i64 m2],.int .i64 ee])∧Below W.heap.size W w':=by
  go_enter Tryz.func175,Tryz.ntmps175
  go_wp2_with (first
    | (go_at_call 316;refine (HC.out _ (by repeat (first|exact Below.refl _ _|refine Below.setCell ?_ (by simp;try omega) _|refine Below.alloc ?_ (by simp;try omega) _|refine Below.drew ?_))).mono ?_;rintro e w1 ⟨rfl,hb⟩;have zzd:=kp2 (n:=W.heap.size+1) hb (by first|omega|(simp;try omega)) (hkeep (halloc2 _ _ (by simp)));(try clear zzB zz0 zz1 zzf zzL zzN);obtain ⟨zzB,zz0,zz1,zzf,zzL,zzN⟩:=zzd;have B1:Hid (Below W.heap.size W w1):=bstep (by repeat (first|exact Below.refl _ _|refine Below.setCell ?_ (by simp;try omega) _|refine Below.alloc ?_ (by simp;try omega) _|refine Below.drew ?_)) hb;clear hb HC))
  exact bodyPost_ret (v:=.tuple #[.agg #[.int .i64 m1,.int .i64 m2],.int .i64 ee]) (by simp [results,Tryz.results175,go_sem, *]) rfl ⟨rfl,(by repeat (first|refine Below.setCell ?_ (by simp;try omega) _|refine Below.alloc ?_ (by have:=B1.out.size;simp;try omega) _|refine Below.drew ?_|exact B1.out))⟩
theorem seV_c {b:Nat} {ps:List Plc} {W:World} (h:WAt b ps W) (hW:WI ps) (r c i:Int):Calls Tryz.prog 175 #[.pointer (some ⟨b,0,none⟩),.int .i64 r,.agg #[.int .i64 c,.int .i64 i]] W fun e w'=>e=.returned (.tuple #[.agg #[.int .i64 (virI ps r (c,i)).1.1,.int .i64 (virI ps r (c,i)).1.2],.int .i64 (virI ps r (c,i)).2])∧Below W.heap.size W w' :=
  seV_n W b r c i _ _ _ (fun w hb=>chV_n w b r c i _ _ _ (fun _ hb2=>vir_c ((h.below hb).below hb2) hW r c i))
set_option maxHeartbeats 8000000 in
theorem entryOf_n (W:World) (b:Nat) (r c i a1 a2 e1 b1 b2 e2:Int) (HI:Hid (∀ w,Below W.heap.size W w→Calls Tryz.prog 132 #[.pointer (some ⟨b,0,none⟩),.int .i64 r,.agg #[.int .i64 c,.int .i64 i]] w fun e w'=>e=.returned (.tuple #[.agg #[.int .i64 a1,.int .i64 a2],.int .i64 e1])∧Below w.heap.size w w')) (HV:Hid (∀ w,Below W.heap.size W w→Calls Tryz.prog 175 #[.pointer (some ⟨b,0,none⟩),.int .i64 r,.agg #[.int .i64 c,.int .i64 i]] w fun e w'=>e=.returned (.tuple #[.agg #[.int .i64 b1,.int .i64 b2],.int .i64 e2])∧Below w.heap.size w w')):Calls Tryz.prog 129 #[.pointer (some ⟨b,0,none⟩),.int .i64 r,.agg #[.int .i64 c,.int .i64 i]] W fun e w'=>e=.returned (.agg #[.int .i64 c,.int .i64 i,.int .i64 a1,.int .i64 a2,.int .i64 e1,.int .i64 b1,.int .i64 b2,.int .i64 e2])∧Below W.heap.size W w':=by
  have BB:Hid (Below W.heap.size W W):=Below.refl _ _
  go_enter Tryz.func129,Tryz.ntmps129
  go_wp2_with (first
    | (go_at_call 132;refine (HI.out _ (by repeat (first|refine Below.setCell ?_ (by simp;try omega) _|refine Below.alloc ?_ (by have:=BB.out.size;simp;try omega) _|refine Below.drew ?_|exact BB.out))).mono ?_;rintro e w1 ⟨rfl,hb⟩;have mmd:=kp2 (n:=W.heap.size) hb;(try clear mmB mm0 mm1 mmf mmL mmN);obtain ⟨mmB,mm0,mm1,mmf,mmL,mmN⟩:=mmd;have rrd:=kp8 (n:=W.heap.size+1) hb (by first|omega|(simp;try omega)) (hkeep (halloc2 _ _ (by simp)));(try clear rrB rr0 rr1 rr2 rr3 rr4 rr5 rr6 rr7 rrf rrL rrN);obtain ⟨rrB,rr0,rr1,rr2,rr3,rr4,rr5,rr6,rr7,rrf,rrL,rrN⟩:=rrd;have eed:=kp8 (n:=W.heap.size+1+1) hb (by first|omega|(simp;try omega)) (halloc2 _ _ (by simp));(try clear eeB ee0 ee1 ee2 ee3 ee4 ee5 ee6 ee7 eef eeL eeN);obtain ⟨eeB,ee0,ee1,ee2,ee3,ee4,ee5,ee6,ee7,eef,eeL,eeN⟩:=eed;have BB2:Below W.heap.size W w1:=bstep (by repeat (first|refine Below.setCell ?_ (by simp;try omega) _|refine Below.alloc ?_ (by have:=BB.out.size;simp;try omega) _|refine Below.drew ?_|exact BB.out)) hb;clear BB;have BB:Hid (Below W.heap.size W w1):=BB2;clear BB2 hb HI)
    | (go_at_call 175;refine (HV.out _ (by repeat (first|refine Below.setCell ?_ (by simp;try omega) _|refine Below.alloc ?_ (by have:=BB.out.size;simp;try omega) _|refine Below.drew ?_|exact BB.out))).mono ?_;rintro e w2 ⟨rfl,hb⟩;have rrd:=kp8 (n:=W.heap.size+1) hb (by first|omega|(simp;try omega)) ((ot8 (by omega)).trans rrB.out);(try clear rrB rr0 rr1 rr2 rr3 rr4 rr5 rr6 rr7 rrf rrL rrN);obtain ⟨rrB,rr0,rr1,rr2,rr3,rr4,rr5,rr6,rr7,rrf,rrL,rrN⟩:=rrd;have eed:=kp8 (n:=W.heap.size+1+1) hb (by first|omega|(simp;try omega)) (st8 eeB.out _ _ _);(try clear eeB ee0 ee1 ee2 ee3 ee4 ee5 ee6 ee7 eef eeL eeN);obtain ⟨eeB,ee0,ee1,ee2,ee3,ee4,ee5,ee6,ee7,eef,eeL,eeN⟩:=eed;have BB2:Below W.heap.size W w2:=bstep (by repeat (first|refine Below.setCell ?_ (by simp;try omega) _|refine Below.alloc ?_ (by have:=BB.out.size;simp;try omega) _|refine Below.drew ?_|exact BB.out)) hb;clear BB;have BB:Hid (Below W.heap.size W w2):=BB2;clear BB2 hb HV))
  exact bodyPost_ret (v:=.agg #[.int .i64 c,.int .i64 i,.int .i64 a1,.int .i64 a2,.int .i64 e1,.int .i64 b1,.int .i64 b2,.int .i64 e2]) (by simp [results,Tryz.results129,go_sem, *]) rfl ⟨rfl,(by repeat (first|refine Below.setCell ?_ (by simp;try omega) _|refine Below.alloc ?_ (by have:=BB.out.size;simp;try omega) _|refine Below.drew ?_|exact BB.out))⟩
theorem entryOf_c {b:Nat} {ps:List Plc} {W:World} (h:WAt b ps W) (hW:WI ps) (r c i:Int):Calls Tryz.prog 129 #[.pointer (some ⟨b,0,none⟩),.int .i64 r,.agg #[.int .i64 c,.int .i64 i]] W fun e w'=>e=.returned (entP ps r (c,i)).agg∧Below W.heap.size W w' :=
  entryOf_n W b r c i _ _ _ _ _ _ (fun _ hb=>seI_c (h.below hb) hW r c i) (fun _ hb=>seV_c (h.below hb) hW r c i)
end Go.Proofs.YthfifobokpfpkaaGreat
