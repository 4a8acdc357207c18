import Derived.Test.YtfjekhmnjfcbeaaGreatRefDesc
import Derived.Lib.ItoaNum
import Derived.Lib.ItoaLen
import Derived.Laws.IdiomStrings
import Derived.Deep.RegionWith
set_option maxRecDepth 100000
namespace Go.Proofs.YtfjekhmnjfcbeaaGreat
open Go.RowKit
def opdTab:List Int:=[-1,1,2,2,2,2,0,0,0,0,0,3,3,3,3,3,3,3,3,0,0,0,4,6,7,0,0,0,0,0,5,5,8,8,8,8,0,0,0,0,0]
def opdI (op:Int):Int:=if op<1∨40<op then -1 else opdTab.getD op.toNat 0
def noRefB (b:Bool) (c n d:ByteArray):Bool:=!b&&c.toList.isEmpty&&n.toList.isEmpty&&d.toList.isEmpty
def sameRefB (b1:Bool) (c1 n1 d1:ByteArray) (b2:Bool) (c2 n2 d2:ByteArray):Bool:=(b1 == b2)&&(c1.toList == c2.toList)&&(n1.toList == n2.toList)&&(d1.toList == d2.toList)
set_option maxHeartbeats 1000000 in
theorem rSameRef_any (b1:Bool) (c1 n1 d1:ByteArray) (b2:Bool) (c2 n2 d2:ByteArray) (w:World):Calls Tryz.prog 186 #[.agg #[.bool b1,.string c1,.string n1,.string d1],.agg #[.bool b2,.string c2,.string n2,.string d2]] w fun e w'=>e=.returned (.bool (sameRefB b1 c1 n1 d1 b2 c2 n2 d2))∧Below w.heap.size w w':=by
  have HN:Hid (sameRefB b1 c1 n1 d1 b2 c2 n2 d2=((b1 == b2)&&(c1.toList == c2.toList)&&(n1.toList == n2.toList)&&(d1.toList == d2.toList))):=rfl
  generalize sameRefB b1 c1 n1 d1 b2 c2 n2 d2=z at *
  generalize hc:(c1.toList == c2.toList)=qc at *
  generalize hn:(n1.toList == n2.toList)=qn at *
  generalize hd:(d1.toList == d2.toList)=qd at *
  generalize hb:(b1 == b2)=qb at *
  go_enter Tryz.func186,Tryz.ntmps186
  go_wp2
  all_goals
    go_ret
    exact ⟨ret_bool (by rw [HN.out];simp [*]),((Below.refl _ _).alloc (Nat.le_refl _) _).alloc (by simp) _⟩
set_option maxHeartbeats 1000000 in
theorem rSame_any (o1 m1:Int) (t1:ByteArray) (b1:Bool) (c1 n1 d1:ByteArray) (o2 m2:Int) (t2:ByteArray) (b2:Bool) (c2 n2 d2:ByteArray) (w:World):Calls Tryz.prog 159 #[.agg #[.int .i64 o1,.int .i64 m1,.string t1,.bool b1,.string c1,.string n1,.string d1],.agg #[.int .i64 o2,.int .i64 m2,.string t2,.bool b2,.string c2,.string n2,.string d2]] w fun e w'=>e=.returned (.bool ((o1 == o2)&&(m1 == m2)&&(t1.toList == t2.toList)&&sameRefB b1 c1 n1 d1 b2 c2 n2 d2))∧Below w.heap.size w w':=by
  have HS:Hid (∀ w,_):=rSameRef_any b1 c1 n1 d1 b2 c2 n2 d2
  generalize sameRefB b1 c1 n1 d1 b2 c2 n2 d2=z at *
  obtain ⟨r,hr⟩:∃ r,r=((o1 == o2)&&(m1 == m2)&&(t1.toList == t2.toList)&&z):=⟨_,rfl⟩
  have HR:Hid (r=((o1 == o2)&&(m1 == m2)&&(t1.toList == t2.toList)&&z)):=hr
  rw [← hr]
  clear hr
  generalize ho:(o1 == o2)=qo at *
  generalize hm:(m1 == m2)=qm at *
  generalize ht:(t1.toList == t2.toList)=qt at *
  go_enter Tryz.func159,Tryz.ntmps159
  go_wp2_with (go_at_call 186;refine ((HS.out) _).mono ?_;rintro e w1 ⟨rfl,hb1⟩)
  all_goals
    go_ret
    first
      | exact ⟨ret_bool (by rw [HR.out];simp [*]),((Below.refl _ _).alloc (Nat.le_refl _) _).alloc (by simp) _⟩
      | exact ⟨ret_bool (by rw [HR.out];simp [*]),Below.step (((Below.refl _ _).alloc (Nat.le_refl _) _).alloc (by simp) _) hb1⟩
def rckB (c n d:List UInt8):Bool:=(prfE c == 0)&&memberL n&&(pdE d == 0)
def rckE (c n d:List UInt8):Int:=if rckB c n d then 0 else 1
theorem opd_cases (op:Int):opdI op=-1∨opdI op=0∨opdI op=1∨opdI op=2∨opdI op=3∨opdI op=4∨opdI op=5∨opdI op=6∨opdI op=7∨opdI op=8:=by
  by_cases h:op<1∨40<op
  · left;rw [opdI,if_pos h]
  · have hx:∀ k:Fin 41,(opdTab.getD k.1 0=-1∨opdTab.getD k.1 0=0∨opdTab.getD k.1 0=1∨opdTab.getD k.1 0=2∨opdTab.getD k.1 0=3∨opdTab.getD k.1 0=4∨opdTab.getD k.1 0=5∨opdTab.getD k.1 0=6∨opdTab.getD k.1 0=7∨opdTab.getD k.1 0=8):=by decide
    have:=hx ⟨op.toNat,by omega⟩
    rw [opdI,if_neg h]
    exact this
def insB (k n:Int) (te:Bool) (t:List UInt8) (z r:Bool):Bool :=
  if k=0 then z&&(n == 0)&&te
  else if k=1 then z&&te&&decide (-2147483648≤n)&&decide (n≤2147483647)
  else if k=2 then z&&te&&decide (0≤n)&&decide (n<40)
  else if k=3 then z&&te&&decide (0≤n)&&decide (n<200)
  else if k=4 then z&&(n == 0)&&validL t
  else if k=5 then z&&(n == 0)&&(prfE t == 0)
  else if k=6 then z&&(n == 0)&&(parE t == 0)&&decide ((parT t).1<255)
  else if k=7 then z&&(prfE t == 0)&&decide (1≤n)&&decide (n≤(prfT t).1)
  else if k=8 then (n == 0)&&te&&r
  else false
def ickE (op n:Int) (t:ByteArray) (b:Bool) (c m d:ByteArray):Int:=if insB (opdI op) n t.toList.isEmpty t.data.toList (noRefB b c m d) (rckB c.data.toList m.data.toList d.data.toList) then 0 else 1
structure Ins where
  op:Int
  n:Int
  t:ByteArray
  b:Bool
  c:ByteArray
  m:ByteArray
  d:ByteArray
def insC (i:Ins):List Value:=[.int .i64 i.op,.int .i64 i.n,.string i.t,.bool i.b,.string i.c,.string i.m,.string i.d]
def insV (i:Ins):Value:=.agg (insC i).toArray
def flatI (l:List Ins):List Value:=l.flatMap insC
theorem flatI_length (l:List Ins):(flatI l).length=l.length * 7:=by
  induction l with
  | nil=>rfl
  | cons t ts ih=>simp only [flatI,List.flatMap_cons,List.length_append,insC] at *;rw [ih];simp;omega
theorem flatI_at (l:List Ins) (k:Nat) (i:Ins) (h:l[k]?=some i):(flatI l)[k * 7]?=some (.int .i64 i.op)∧(flatI l)[k * 7+1]?=some (.int .i64 i.n)∧(flatI l)[k * 7+2]?=some (.string i.t)∧(flatI l)[k * 7+3]?=some (.bool i.b)∧(flatI l)[k * 7+4]?=some (.string i.c)∧(flatI l)[k * 7+5]?=some (.string i.m)∧(flatI l)[k * 7+6]?=some (.string i.d):=by
  induction l generalizing k with
  | nil=>simp at h
  | cons u ts ih =>
    have e:flatI (u::ts)=.int .i64 u.op::.int .i64 u.n::.string u.t::.bool u.b::.string u.c::.string u.m::.string u.d::flatI ts:=by simp [flatI,insC]
    rw [e]
    cases k with
    | zero=>simp at h;subst h;exact ⟨rfl,rfl,rfl,rfl,rfl,rfl,rfl⟩
    | succ k =>
      simp at h
      have:=ih k h
      rw [show (k+1) * 7=k * 7+1+1+1+1+1+1+1 by omega,show k * 7+1+1+1+1+1+1+1+1=k * 7+1+1+1+1+1+1+1+1 by rfl]
      simp only [show ∀ j,k * 7+1+1+1+1+1+1+1+j=k * 7+j+1+1+1+1+1+1+1 from fun j=>by omega,List.getElem?_cons_succ]
      exact this
def InsAt (w:World) (bk o:Nat) (i:Ins):Prop :=
  w.cell? ⟨bk,o,none⟩=some (.int .i64 i.op)∧w.cell? ⟨bk,o+1,none⟩=some (.int .i64 i.n)∧w.cell? ⟨bk,o+2,none⟩=some (.string i.t)∧w.cell? ⟨bk,o+3,none⟩=some (.bool i.b)∧w.cell? ⟨bk,o+4,none⟩=some (.string i.c)∧w.cell? ⟨bk,o+5,none⟩=some (.string i.m)∧w.cell? ⟨bk,o+6,none⟩=some (.string i.d)
theorem InsAt.keep {w w':World} {N bk o:Nat} {i:Ins} (h:InsAt w bk o i) (hb:Below N w w') (hlt:bk<N):InsAt w' bk o i :=
  ⟨(hb.cell hlt).trans h.1,(hb.cell hlt).trans h.2.1,(hb.cell hlt).trans h.2.2.1,(hb.cell hlt).trans h.2.2.2.1,(hb.cell hlt).trans h.2.2.2.2.1,(hb.cell hlt).trans h.2.2.2.2.2.1,(hb.cell hlt).trans h.2.2.2.2.2.2⟩
def IsInss (w:World) (v:Value) (l:List Ins):Prop :=
  ∃ ao cap,v=.slice ao l.length cap∧l.length≤cap∧cap≤maxLen ∧
    (l≠[]→∃ bk o,ao=some ⟨bk,o,none⟩∧bk<w.heap.size∧∀ k i,l[k]?=some i→InsAt w bk (o+k * 7) i)
theorem IsInss.keep {w w':World} {v:Value} {l:List Ins} (h:IsInss w v l) (hb:Below w.heap.size w w'):IsInss w' v l:=by
  obtain ⟨ao,cap,rfl,h1,h2,h3⟩:=h
  refine ⟨ao,cap,rfl,h1,h2,fun hne=>?_⟩
  obtain ⟨bk,o,e,hlt,hc⟩:=h3 hne
  exact ⟨bk,o,e,Nat.lt_of_lt_of_le hlt hb.size,fun k i hk=>(hc k i hk).keep hb hlt⟩
def sameI (a b:Ins):Bool:=(a.op == b.op)&&(a.n == b.n)&&(a.t.toList == b.t.toList)&&sameRefB a.b a.c a.m a.d b.b b.c b.m b.d
def sameL:List Ins→List Ins→Bool
  | [],[]=>true
  | x::a,y::b=>sameI x y&&sameL a b
  | _,_=>false
theorem sameL_len {a b:List Ins} (h:a.length≠b.length):sameL a b=false:=by
  induction a generalizing b with
  | nil=>cases b with
    | nil=>exact absurd rfl h
    | cons y b=>rfl
  | cons x a ih=>cases b with
    | nil=>rfl
    | cons y b=>rw [sameL,ih (fun e=>h (by simp [e]))];simp
theorem sameL_at {a b:List Ins} (k:Nat) (x y:Ins) (ha:a[k]?=some x) (hb:b[k]?=some y):sameL (a.drop k) (b.drop k)=(sameI x y&&sameL (a.drop (k+1)) (b.drop (k+1))):=by
  obtain ⟨h1,h2⟩:=List.getElem?_eq_some_iff.1 ha
  obtain ⟨h3,h4⟩:=List.getElem?_eq_some_iff.1 hb
  rw [List.drop_eq_getElem_cons h1,List.drop_eq_getElem_cons h3,h2,h4,sameL]
set_option maxHeartbeats 4000000 in
theorem rSameCode_any (va vb:Value) (la lb:List Ins) (W:World) (ha:IsInss W va la) (hb:IsInss W vb lb):Calls Tryz.prog 119 #[va,vb] W fun e w'=>e=.returned (.bool (sameL la lb))∧Below W.heap.size W w':=by
  obtain ⟨aa,ca,rfl,a1,a2,a3⟩:=ha
  obtain ⟨ab,cb,rfl,b1,b2,b3⟩:=hb
  unfold maxLen at a2 b2
  by_cases hl:la.length=lb.length
  · obtain ⟨N,hN⟩:∃ N,la.length=N:=⟨_,rfl⟩
    have hM:lb.length=N:=by omega
    rw [hN] at a1 ⊢
    rw [hM] at b1 ⊢
    have HN1:Hid (la.length=N):=hN
    have HM1:Hid (lb.length=N):=hM
    clear hl hN hM
    have HA:Hid _:=a3
    have HB:Hid _:=b3
    clear a3 b3
    go_enter Tryz.func119,Tryz.ntmps119
    go_wp2
    go_loopw [5] (fun iv wr=>∃ i:Nat,iv=.int .i64 i∧i≤N∧Hid (Below W.heap.size W wr)∧Hid (sameL (la.drop i) (lb.drop i)=sameL la lb)) (fun iv _=>N - (intOf iv).toNat)
    case atStart=>exact ⟨0,rfl,Nat.zero_le _,Below.refl _ _,rfl⟩
    case round =>
      obtain ⟨i,rfl,hi,hb,hs⟩:=hrel
      by_cases hlt:i<N
      · obtain ⟨ba,oa,hao,hba,hca⟩:=HA.out (by intro e;have:=HN1.out;rw [e] at this;simp at this;omega)
        obtain ⟨bb,ob,hbo,hbb,hcb⟩:=HB.out (by intro e;have:=HM1.out;rw [e] at this;simp at this;omega)
        obtain ⟨x,hx⟩:∃ x,la[i]?=some x:=⟨_,List.getElem?_eq_getElem (by rw [HN1.out];exact hlt)⟩
        obtain ⟨y,hy⟩:∃ y,lb[i]?=some y:=⟨_,List.getElem?_eq_getElem (by rw [HM1.out];exact hlt)⟩
        subst hao hbo
        have hst:=sameL_at i x y hx hy
        rw [hs.out] at hst
        have ka:=(hca i x hx).keep hb.out hba
        have kb:=(hcb i y hy).keep hb.out hbb
        have HS:Hid (∀ w,_):=rSame_any x.op x.n x.t x.b x.c x.m x.d y.op y.n y.t y.b y.c y.m y.d
        have hsi:sameI x y=((x.op == y.op)&&(x.n == y.n)&&(x.t.toList == y.t.toList)&&sameRefB x.b x.c x.m x.d y.b y.c y.m y.d):=rfl
        rw [← hsi] at HS
        clear hsi hca hcb hs HA HB hx hy
        obtain ⟨xo,xn,xt,xb,xc,xm,xd⟩:=x
        obtain ⟨yo,yn,yt,yb,yc,ym,yd⟩:=y
        generalize sameI _ _=q at *
        obtain ⟨p0,p1,p2,p3,p4,p5,p6⟩:=ka
        obtain ⟨q0,q1,q2,q3,q4,q5,q6⟩:=kb
        simp only at p0 p1 p2 p3 p4 p5 p6 q0 q1 q2 q3 q4 q5 q6 HS
        cases q with
        | true =>
          have HN:Hid (sameL (la.drop (i+1)) (lb.drop (i+1))=sameL la lb):=by rw [Hid,hst];simp
          clear hst
          go_wp2
          go_region_with (go_at_call 159;refine (HS.out _).mono ?_;rintro e w1 ⟨rfl,hb1⟩;have hB1:Hid (Below W.heap.size W w1):=Below.step hb.out.drew hb1;clear hb1)
          all_goals
            go_wp2
            go_roundw
            case rel=>exact ⟨i+1,by go_num,by omega,hB1,HN⟩
            case measure=>simp [intOf];omega
        | false =>
          have HN:Hid (sameL la lb=false):=by rw [Hid,hst];rfl
          clear hst
          go_wp2
          go_region_with (go_at_call 159;refine (HS.out _).mono ?_;rintro e w1 ⟨rfl,hb1⟩;have hB1:Hid (Below W.heap.size W w1):=Below.step hb.out.drew hb1;clear hb1)
          all_goals
            go_wp2
            go_ret
            exact ⟨ret_bool HN.out.symm,hB1.out⟩
      · have HN:Hid (sameL la lb=true):=by
          rw [Hid,← hs.out,List.drop_of_length_le (by rw [HN1.out];omega),List.drop_of_length_le (by rw [HM1.out];omega)];rfl
        clear HA HB hs
        go_wp2
        go_ret
        exact ⟨ret_bool HN.out.symm,hb.out⟩
  · have hl':((la.length:Int) != lb.length)=true:=by rw [bne_iff_ne];omega
    have HN:Hid (sameL la lb=false):=sameL_len hl
    clear a3 b3
    go_enter Tryz.func119,Tryz.ntmps119
    go_wp2
    go_ret
    exact ⟨ret_bool HN.out.symm,Below.refl _ _⟩
def ickI (i:Ins):Int:=ickE i.op i.n i.t i.b i.c i.m i.d
def badI (locals len:Int) (i:Ins):Bool:=(ickI i != 0)||((opdI i.op == 2)&&decide (locals≤i.n))||((opdI i.op == 3)&&decide (len≤i.n))
def allE (l:List Ins) (locals:Int):Int:=if l.length<1∨200<l.length then 1 else if l.any (badI locals l.length) then 1 else 0
def InsOK (i:Ins):Prop:=i.t.size≤maxLen∧i.c.size≤maxLen∧i.m.size≤maxLen∧i.d.size≤maxLen
theorem any_at {l:List Ins} {p:Ins→Bool} (k:Nat) (x:Ins) (h:l[k]?=some x):(l.drop k).any p=(p x||(l.drop (k+1)).any p):=by
  obtain ⟨h1,h2⟩:=List.getElem?_eq_some_iff.1 h
  rw [List.drop_eq_getElem_cons h1,h2,List.any_cons]
theorem ick_01 (op n:Int) (t:ByteArray) (b:Bool) (c m d:ByteArray):ickE op n t b c m d=0∨ickE op n t b c m d=1:=by
  unfold ickE;split <;> simp
def opB (op:Int):Bool:=decide (0<op)&&decide (op<41)
set_option maxHeartbeats 1000000 in
theorem isOp_any (op:Int) (r:Bool) (hr:opB op=r) (w:World):Calls Tryz.prog 243 #[.int .i64 op] w fun e w'=>e=.returned (.bool r)∧w'=w:=by
  have HR:Hid (r=(decide (0<op)&&decide (op<41))):=hr.symm
  clear hr
  go_enter Tryz.func243,Tryz.ntmps243
  go_wp2
  all_goals
    go_ret
    exact ⟨ret_bool (by rw [HR.out];first|(simp [*];done)|(simp [*];omega)),rfl⟩
set_option maxHeartbeats 8000000 in
theorem operand_any (op:Int) (w:World):Calls Tryz.prog 233 #[.int .i64 op] w fun e w'=>e=.returned (.int .i64 (opdI op))∧w'=w:=by
  by_cases h:op<1∨40<op
  · have HO:Hid (opdI op=-1):=by rw [Hid,opdI,if_pos h]
    have HB:Hid (∀ w,_):=isOp_any op false (by unfold opB;rw [Bool.and_eq_false_iff];rcases h with h|h;exact .inl (decide_eq_false (by omega));exact .inr (decide_eq_false (by omega)))
    have hk:∀ k:Int,1≤k→k≤40→(op == k)=false:=fun k h1 h2=>by rw [beq_eq_false_iff_ne];omega
    have e1:=hk 1 (by omega) (by omega);have e2:=hk 2 (by omega) (by omega);have e3:=hk 3 (by omega) (by omega);have e4:=hk 4 (by omega) (by omega);have e5:=hk 5 (by omega) (by omega);have e11:=hk 11 (by omega) (by omega);have e12:=hk 12 (by omega) (by omega);have e13:=hk 13 (by omega) (by omega);have e14:=hk 14 (by omega) (by omega);have e15:=hk 15 (by omega) (by omega);have e16:=hk 16 (by omega) (by omega);have e17:=hk 17 (by omega) (by omega);have e18:=hk 18 (by omega) (by omega);have e22:=hk 22 (by omega) (by omega);have e30:=hk 30 (by omega) (by omega);have e31:=hk 31 (by omega) (by omega);have e23:=hk 23 (by omega) (by omega);have e24:=hk 24 (by omega) (by omega);have e32:=hk 32 (by omega) (by omega);have e33:=hk 33 (by omega) (by omega);have e34:=hk 34 (by omega) (by omega);have e35:=hk 35 (by omega) (by omega)
    clear hk h
    go_enter Tryz.func233,Tryz.ntmps233
    go_wp2_with (go_at_call 243;refine ((HB.out) _).mono ?_;rintro e w1 ⟨rfl,hw1⟩;rw [hw1])
    go_ret
    exact ⟨ret_int HO.out.symm,rfl⟩
  · obtain ⟨k,rfl⟩:∃ k:Nat,op=k:=⟨op.toNat,by omega⟩
    have hk:k=1∨k=2∨k=3∨k=4∨k=5∨k=6∨k=7∨k=8∨k=9∨k=10∨k=11∨k=12∨k=13∨k=14∨k=15∨k=16∨k=17∨k=18∨k=19∨k=20∨k=21∨k=22∨k=23∨k=24∨k=25∨k=26∨k=27∨k=28∨k=29∨k=30∨k=31∨k=32∨k=33∨k=34∨k=35∨k=36∨k=37∨k=38∨k=39∨k=40:=by omega
    clear h
    rcases hk with rfl|rfl|rfl|rfl|rfl|rfl|rfl|rfl|rfl|rfl|rfl|rfl|rfl|rfl|rfl|rfl|rfl|rfl|rfl|rfl|rfl|rfl|rfl|rfl|rfl|rfl|rfl|rfl|rfl|rfl|rfl|rfl|rfl|rfl|rfl|rfl|rfl|rfl|rfl|rfl
    all_goals
      go_enter Tryz.func233,Tryz.ntmps233
      go_wp2_with (go_at_call 243;refine (isOp_any _ true (by decide) _).mono ?_;rintro e w1 ⟨rfl,hw1⟩;rw [hw1])
      go_ret
      exact ⟨rfl,rfl⟩
def inB (n l h:Int):Bool:=decide (l≤n)&&decide (n≤h)
set_option maxHeartbeats 1000000 in
theorem isWithin_any (n l h:Int) (w:World):Calls Tryz.prog 239 #[.int .i64 n,.int .i64 l,.int .i64 h] w fun e w'=>e=.returned (.bool (inB n l h))∧w'=w:=by
  have HR:Hid (inB n l h=(decide (l≤n)&&decide (n≤h))):=rfl
  generalize inB n l h=r at *
  go_enter Tryz.func239,Tryz.ntmps239
  go_wp2
  all_goals
    go_ret
    exact ⟨ret_bool (by rw [HR.out];first|(simp [*];done)|(simp [*];omega)),rfl⟩
def fmB (k n locals size:Int):Bool:=if k=2 then decide (n<locals) else if k=3 then decide (n<size) else true
def ownI (i:Ins):Ins :=
  if opdI i.op=1∨opdI i.op=2∨opdI i.op=3 then ⟨i.op,i.n,⟨#[]⟩,false,⟨#[]⟩,⟨#[]⟩,⟨#[]⟩⟩
  else if opdI i.op=4∨opdI i.op=5∨opdI i.op=6 then ⟨i.op,0,i.t,false,⟨#[]⟩,⟨#[]⟩,⟨#[]⟩⟩
  else if opdI i.op=7 then ⟨i.op,i.n,i.t,false,⟨#[]⟩,⟨#[]⟩,⟨#[]⟩⟩
  else if opdI i.op=8 then ⟨i.op,0,⟨#[]⟩,i.b,i.c,i.m,i.d⟩
  else ⟨i.op,0,⟨#[]⟩,false,⟨#[]⟩,⟨#[]⟩,⟨#[]⟩⟩
set_option maxHeartbeats 4000000 in
theorem ownParts_none (op n:Int) (hk:opdI op=-1) (t:ByteArray) (b:Bool) (c m d:ByteArray) (w:World):Calls Tryz.prog 231 #[.agg #[.int .i64 op,.int .i64 n,.string t,.bool b,.string c,.string m,.string d]] w fun e w'=>e=.returned (insV (ownI ⟨op,n,t,b,c,m,d⟩))∧Below w.heap.size w w':=by
  have HO:=operand_any op
  rw [hk] at HO
  have HO:Hid (∀ w,_):=HO
  have HR:insV (ownI ⟨op,n,t,b,c,m,d⟩)=.agg #[.int .i64 op,.int .i64 0,.string ⟨#[]⟩,.bool false,.string ⟨#[]⟩,.string ⟨#[]⟩,.string ⟨#[]⟩]:=by unfold ownI;simp only [hk];rfl
  rw [HR]
  clear hk HR
  go_enter Tryz.func231,Tryz.ntmps231
  go_wp2_with (go_at_call 233;refine ((HO.out) _).mono ?_;rintro e w0 ⟨rfl,hw0⟩;rw [hw0];clear hw0 HO)
  refine bodyPost_ret (v:=.agg #[.int .i64 op,.int .i64 0,.string ⟨#[]⟩,.bool false,.string ⟨#[]⟩,.string ⟨#[]⟩,.string ⟨#[]⟩]) (by simp [results,Tryz.results231,go_sem, *]) rfl ⟨rfl,?_⟩
  exact ((Below.refl _ _).alloc (Nat.le_refl _) _).alloc (by simp) _
set_option maxHeartbeats 4000000 in
theorem fitsMethod_none (op n locals size:Int) (hk:opdI op=-1) (t:ByteArray) (b:Bool) (c m d:ByteArray) (w:World):Calls Tryz.prog 223 #[.agg #[.int .i64 op,.int .i64 n,.string t,.bool b,.string c,.string m,.string d],.int .i64 locals,.int .i64 size] w fun e w'=>e=.returned (.bool (fmB (opdI op) n locals size))∧Below w.heap.size w w':=by
  have HO:=operand_any op
  rw [hk] at HO
  have HO:Hid (∀ w,_):=HO
  have HR:fmB (opdI op) n locals size=true:=by rw [hk];rfl
  rw [HR]
  clear hk HR
  go_enter Tryz.func223,Tryz.ntmps223
  go_wp2_with (go_at_call 233;refine ((HO.out) _).mono ?_;rintro e w0 ⟨rfl,hw0⟩;rw [hw0];clear hw0 HO)
  go_ret
  exact ⟨ret_bool rfl,(Below.refl _ _).alloc (Nat.le_refl _) _⟩
set_option maxHeartbeats 4000000 in
theorem ownParts_0 (op n:Int) (hk:opdI op=0) (t:ByteArray) (b:Bool) (c m d:ByteArray) (w:World):Calls Tryz.prog 231 #[.agg #[.int .i64 op,.int .i64 n,.string t,.bool b,.string c,.string m,.string d]] w fun e w'=>e=.returned (insV (ownI ⟨op,n,t,b,c,m,d⟩))∧Below w.heap.size w w':=by
  have HO:=operand_any op
  rw [hk] at HO
  have HO:Hid (∀ w,_):=HO
  have HR:insV (ownI ⟨op,n,t,b,c,m,d⟩)=.agg #[.int .i64 op,.int .i64 0,.string ⟨#[]⟩,.bool false,.string ⟨#[]⟩,.string ⟨#[]⟩,.string ⟨#[]⟩]:=by unfold ownI;simp only [hk];rfl
  rw [HR]
  clear hk HR
  go_enter Tryz.func231,Tryz.ntmps231
  go_wp2_with (go_at_call 233;refine ((HO.out) _).mono ?_;rintro e w0 ⟨rfl,hw0⟩;rw [hw0];clear hw0 HO)
  refine bodyPost_ret (v:=.agg #[.int .i64 op,.int .i64 0,.string ⟨#[]⟩,.bool false,.string ⟨#[]⟩,.string ⟨#[]⟩,.string ⟨#[]⟩]) (by simp [results,Tryz.results231,go_sem, *]) rfl ⟨rfl,?_⟩
  exact ((Below.refl _ _).alloc (Nat.le_refl _) _).alloc (by simp) _
set_option maxHeartbeats 4000000 in
theorem fitsMethod_0 (op n locals size:Int) (hk:opdI op=0) (t:ByteArray) (b:Bool) (c m d:ByteArray) (w:World):Calls Tryz.prog 223 #[.agg #[.int .i64 op,.int .i64 n,.string t,.bool b,.string c,.string m,.string d],.int .i64 locals,.int .i64 size] w fun e w'=>e=.returned (.bool (fmB (opdI op) n locals size))∧Below w.heap.size w w':=by
  have HO:=operand_any op
  rw [hk] at HO
  have HO:Hid (∀ w,_):=HO
  have HR:fmB (opdI op) n locals size=true:=by rw [hk];rfl
  rw [HR]
  clear hk HR
  go_enter Tryz.func223,Tryz.ntmps223
  go_wp2_with (go_at_call 233;refine ((HO.out) _).mono ?_;rintro e w0 ⟨rfl,hw0⟩;rw [hw0];clear hw0 HO)
  go_ret
  exact ⟨ret_bool rfl,(Below.refl _ _).alloc (Nat.le_refl _) _⟩
set_option maxHeartbeats 4000000 in
theorem ownParts_1 (op n:Int) (hk:opdI op=1) (t:ByteArray) (b:Bool) (c m d:ByteArray) (w:World):Calls Tryz.prog 231 #[.agg #[.int .i64 op,.int .i64 n,.string t,.bool b,.string c,.string m,.string d]] w fun e w'=>e=.returned (insV (ownI ⟨op,n,t,b,c,m,d⟩))∧Below w.heap.size w w':=by
  have HO:=operand_any op
  rw [hk] at HO
  have HO:Hid (∀ w,_):=HO
  have HR:insV (ownI ⟨op,n,t,b,c,m,d⟩)=.agg #[.int .i64 op,.int .i64 n,.string ⟨#[]⟩,.bool false,.string ⟨#[]⟩,.string ⟨#[]⟩,.string ⟨#[]⟩]:=by unfold ownI;simp only [hk];rfl
  rw [HR]
  clear hk HR
  go_enter Tryz.func231,Tryz.ntmps231
  go_wp2_with (go_at_call 233;refine ((HO.out) _).mono ?_;rintro e w0 ⟨rfl,hw0⟩;rw [hw0];clear hw0 HO)
  refine bodyPost_ret (v:=.agg #[.int .i64 op,.int .i64 n,.string ⟨#[]⟩,.bool false,.string ⟨#[]⟩,.string ⟨#[]⟩,.string ⟨#[]⟩]) (by simp [results,Tryz.results231,go_sem, *]) rfl ⟨rfl,?_⟩
  exact ((Below.refl _ _).alloc (Nat.le_refl _) _).alloc (by simp) _
set_option maxHeartbeats 4000000 in
theorem fitsMethod_1 (op n locals size:Int) (hk:opdI op=1) (t:ByteArray) (b:Bool) (c m d:ByteArray) (w:World):Calls Tryz.prog 223 #[.agg #[.int .i64 op,.int .i64 n,.string t,.bool b,.string c,.string m,.string d],.int .i64 locals,.int .i64 size] w fun e w'=>e=.returned (.bool (fmB (opdI op) n locals size))∧Below w.heap.size w w':=by
  have HO:=operand_any op
  rw [hk] at HO
  have HO:Hid (∀ w,_):=HO
  have HR:fmB (opdI op) n locals size=true:=by rw [hk];rfl
  rw [HR]
  clear hk HR
  go_enter Tryz.func223,Tryz.ntmps223
  go_wp2_with (go_at_call 233;refine ((HO.out) _).mono ?_;rintro e w0 ⟨rfl,hw0⟩;rw [hw0];clear hw0 HO)
  go_ret
  exact ⟨ret_bool rfl,(Below.refl _ _).alloc (Nat.le_refl _) _⟩
set_option maxHeartbeats 4000000 in
theorem ownParts_2 (op n:Int) (hk:opdI op=2) (t:ByteArray) (b:Bool) (c m d:ByteArray) (w:World):Calls Tryz.prog 231 #[.agg #[.int .i64 op,.int .i64 n,.string t,.bool b,.string c,.string m,.string d]] w fun e w'=>e=.returned (insV (ownI ⟨op,n,t,b,c,m,d⟩))∧Below w.heap.size w w':=by
  have HO:=operand_any op
  rw [hk] at HO
  have HO:Hid (∀ w,_):=HO
  have HR:insV (ownI ⟨op,n,t,b,c,m,d⟩)=.agg #[.int .i64 op,.int .i64 n,.string ⟨#[]⟩,.bool false,.string ⟨#[]⟩,.string ⟨#[]⟩,.string ⟨#[]⟩]:=by unfold ownI;simp only [hk];rfl
  rw [HR]
  clear hk HR
  go_enter Tryz.func231,Tryz.ntmps231
  go_wp2_with (go_at_call 233;refine ((HO.out) _).mono ?_;rintro e w0 ⟨rfl,hw0⟩;rw [hw0];clear hw0 HO)
  refine bodyPost_ret (v:=.agg #[.int .i64 op,.int .i64 n,.string ⟨#[]⟩,.bool false,.string ⟨#[]⟩,.string ⟨#[]⟩,.string ⟨#[]⟩]) (by simp [results,Tryz.results231,go_sem, *]) rfl ⟨rfl,?_⟩
  exact ((Below.refl _ _).alloc (Nat.le_refl _) _).alloc (by simp) _
set_option maxHeartbeats 4000000 in
theorem fitsMethod_2 (op n locals size:Int) (hk:opdI op=2) (t:ByteArray) (b:Bool) (c m d:ByteArray) (w:World):Calls Tryz.prog 223 #[.agg #[.int .i64 op,.int .i64 n,.string t,.bool b,.string c,.string m,.string d],.int .i64 locals,.int .i64 size] w fun e w'=>e=.returned (.bool (fmB (opdI op) n locals size))∧Below w.heap.size w w':=by
  have HO:=operand_any op
  rw [hk] at HO
  have HO:Hid (∀ w,_):=HO
  have HR:fmB (opdI op) n locals size=decide (n<locals):=by rw [hk];rfl
  rw [HR]
  clear hk HR
  go_enter Tryz.func223,Tryz.ntmps223
  go_wp2_with (go_at_call 233;refine ((HO.out) _).mono ?_;rintro e w0 ⟨rfl,hw0⟩;rw [hw0];clear hw0 HO)
  go_ret
  exact ⟨ret_bool rfl,(Below.refl _ _).alloc (Nat.le_refl _) _⟩
set_option maxHeartbeats 4000000 in
theorem ownParts_3 (op n:Int) (hk:opdI op=3) (t:ByteArray) (b:Bool) (c m d:ByteArray) (w:World):Calls Tryz.prog 231 #[.agg #[.int .i64 op,.int .i64 n,.string t,.bool b,.string c,.string m,.string d]] w fun e w'=>e=.returned (insV (ownI ⟨op,n,t,b,c,m,d⟩))∧Below w.heap.size w w':=by
  have HO:=operand_any op
  rw [hk] at HO
  have HO:Hid (∀ w,_):=HO
  have HR:insV (ownI ⟨op,n,t,b,c,m,d⟩)=.agg #[.int .i64 op,.int .i64 n,.string ⟨#[]⟩,.bool false,.string ⟨#[]⟩,.string ⟨#[]⟩,.string ⟨#[]⟩]:=by unfold ownI;simp only [hk];rfl
  rw [HR]
  clear hk HR
  go_enter Tryz.func231,Tryz.ntmps231
  go_wp2_with (go_at_call 233;refine ((HO.out) _).mono ?_;rintro e w0 ⟨rfl,hw0⟩;rw [hw0];clear hw0 HO)
  refine bodyPost_ret (v:=.agg #[.int .i64 op,.int .i64 n,.string ⟨#[]⟩,.bool false,.string ⟨#[]⟩,.string ⟨#[]⟩,.string ⟨#[]⟩]) (by simp [results,Tryz.results231,go_sem, *]) rfl ⟨rfl,?_⟩
  exact ((Below.refl _ _).alloc (Nat.le_refl _) _).alloc (by simp) _
set_option maxHeartbeats 4000000 in
theorem fitsMethod_3 (op n locals size:Int) (hk:opdI op=3) (t:ByteArray) (b:Bool) (c m d:ByteArray) (w:World):Calls Tryz.prog 223 #[.agg #[.int .i64 op,.int .i64 n,.string t,.bool b,.string c,.string m,.string d],.int .i64 locals,.int .i64 size] w fun e w'=>e=.returned (.bool (fmB (opdI op) n locals size))∧Below w.heap.size w w':=by
  have HO:=operand_any op
  rw [hk] at HO
  have HO:Hid (∀ w,_):=HO
  have HR:fmB (opdI op) n locals size=decide (n<size):=by rw [hk];rfl
  rw [HR]
  clear hk HR
  go_enter Tryz.func223,Tryz.ntmps223
  go_wp2_with (go_at_call 233;refine ((HO.out) _).mono ?_;rintro e w0 ⟨rfl,hw0⟩;rw [hw0];clear hw0 HO)
  go_ret
  exact ⟨ret_bool rfl,(Below.refl _ _).alloc (Nat.le_refl _) _⟩
set_option maxHeartbeats 4000000 in
theorem ownParts_4 (op n:Int) (hk:opdI op=4) (t:ByteArray) (b:Bool) (c m d:ByteArray) (w:World):Calls Tryz.prog 231 #[.agg #[.int .i64 op,.int .i64 n,.string t,.bool b,.string c,.string m,.string d]] w fun e w'=>e=.returned (insV (ownI ⟨op,n,t,b,c,m,d⟩))∧Below w.heap.size w w':=by
  have HO:=operand_any op
  rw [hk] at HO
  have HO:Hid (∀ w,_):=HO
  have HR:insV (ownI ⟨op,n,t,b,c,m,d⟩)=.agg #[.int .i64 op,.int .i64 0,.string t,.bool false,.string ⟨#[]⟩,.string ⟨#[]⟩,.string ⟨#[]⟩]:=by unfold ownI;simp only [hk];rfl
  rw [HR]
  clear hk HR
  go_enter Tryz.func231,Tryz.ntmps231
  go_wp2_with (go_at_call 233;refine ((HO.out) _).mono ?_;rintro e w0 ⟨rfl,hw0⟩;rw [hw0];clear hw0 HO)
  refine bodyPost_ret (v:=.agg #[.int .i64 op,.int .i64 0,.string t,.bool false,.string ⟨#[]⟩,.string ⟨#[]⟩,.string ⟨#[]⟩]) (by simp [results,Tryz.results231,go_sem, *]) rfl ⟨rfl,?_⟩
  exact ((Below.refl _ _).alloc (Nat.le_refl _) _).alloc (by simp) _
set_option maxHeartbeats 4000000 in
theorem fitsMethod_4 (op n locals size:Int) (hk:opdI op=4) (t:ByteArray) (b:Bool) (c m d:ByteArray) (w:World):Calls Tryz.prog 223 #[.agg #[.int .i64 op,.int .i64 n,.string t,.bool b,.string c,.string m,.string d],.int .i64 locals,.int .i64 size] w fun e w'=>e=.returned (.bool (fmB (opdI op) n locals size))∧Below w.heap.size w w':=by
  have HO:=operand_any op
  rw [hk] at HO
  have HO:Hid (∀ w,_):=HO
  have HR:fmB (opdI op) n locals size=true:=by rw [hk];rfl
  rw [HR]
  clear hk HR
  go_enter Tryz.func223,Tryz.ntmps223
  go_wp2_with (go_at_call 233;refine ((HO.out) _).mono ?_;rintro e w0 ⟨rfl,hw0⟩;rw [hw0];clear hw0 HO)
  go_ret
  exact ⟨ret_bool rfl,(Below.refl _ _).alloc (Nat.le_refl _) _⟩
set_option maxHeartbeats 4000000 in
theorem ownParts_5 (op n:Int) (hk:opdI op=5) (t:ByteArray) (b:Bool) (c m d:ByteArray) (w:World):Calls Tryz.prog 231 #[.agg #[.int .i64 op,.int .i64 n,.string t,.bool b,.string c,.string m,.string d]] w fun e w'=>e=.returned (insV (ownI ⟨op,n,t,b,c,m,d⟩))∧Below w.heap.size w w':=by
  have HO:=operand_any op
  rw [hk] at HO
  have HO:Hid (∀ w,_):=HO
  have HR:insV (ownI ⟨op,n,t,b,c,m,d⟩)=.agg #[.int .i64 op,.int .i64 0,.string t,.bool false,.string ⟨#[]⟩,.string ⟨#[]⟩,.string ⟨#[]⟩]:=by unfold ownI;simp only [hk];rfl
  rw [HR]
  clear hk HR
  go_enter Tryz.func231,Tryz.ntmps231
  go_wp2_with (go_at_call 233;refine ((HO.out) _).mono ?_;rintro e w0 ⟨rfl,hw0⟩;rw [hw0];clear hw0 HO)
  refine bodyPost_ret (v:=.agg #[.int .i64 op,.int .i64 0,.string t,.bool false,.string ⟨#[]⟩,.string ⟨#[]⟩,.string ⟨#[]⟩]) (by simp [results,Tryz.results231,go_sem, *]) rfl ⟨rfl,?_⟩
  exact ((Below.refl _ _).alloc (Nat.le_refl _) _).alloc (by simp) _
set_option maxHeartbeats 4000000 in
theorem fitsMethod_5 (op n locals size:Int) (hk:opdI op=5) (t:ByteArray) (b:Bool) (c m d:ByteArray) (w:World):Calls Tryz.prog 223 #[.agg #[.int .i64 op,.int .i64 n,.string t,.bool b,.string c,.string m,.string d],.int .i64 locals,.int .i64 size] w fun e w'=>e=.returned (.bool (fmB (opdI op) n locals size))∧Below w.heap.size w w':=by
  have HO:=operand_any op
  rw [hk] at HO
  have HO:Hid (∀ w,_):=HO
  have HR:fmB (opdI op) n locals size=true:=by rw [hk];rfl
  rw [HR]
  clear hk HR
  go_enter Tryz.func223,Tryz.ntmps223
  go_wp2_with (go_at_call 233;refine ((HO.out) _).mono ?_;rintro e w0 ⟨rfl,hw0⟩;rw [hw0];clear hw0 HO)
  go_ret
  exact ⟨ret_bool rfl,(Below.refl _ _).alloc (Nat.le_refl _) _⟩
set_option maxHeartbeats 4000000 in
theorem ownParts_6 (op n:Int) (hk:opdI op=6) (t:ByteArray) (b:Bool) (c m d:ByteArray) (w:World):Calls Tryz.prog 231 #[.agg #[.int .i64 op,.int .i64 n,.string t,.bool b,.string c,.string m,.string d]] w fun e w'=>e=.returned (insV (ownI ⟨op,n,t,b,c,m,d⟩))∧Below w.heap.size w w':=by
  have HO:=operand_any op
  rw [hk] at HO
  have HO:Hid (∀ w,_):=HO
  have HR:insV (ownI ⟨op,n,t,b,c,m,d⟩)=.agg #[.int .i64 op,.int .i64 0,.string t,.bool false,.string ⟨#[]⟩,.string ⟨#[]⟩,.string ⟨#[]⟩]:=by unfold ownI;simp only [hk];rfl
  rw [HR]
  clear hk HR
  go_enter Tryz.func231,Tryz.ntmps231
  go_wp2_with (go_at_call 233;refine ((HO.out) _).mono ?_;rintro e w0 ⟨rfl,hw0⟩;rw [hw0];clear hw0 HO)
  refine bodyPost_ret (v:=.agg #[.int .i64 op,.int .i64 0,.string t,.bool false,.string ⟨#[]⟩,.string ⟨#[]⟩,.string ⟨#[]⟩]) (by simp [results,Tryz.results231,go_sem, *]) rfl ⟨rfl,?_⟩
  exact ((Below.refl _ _).alloc (Nat.le_refl _) _).alloc (by simp) _
set_option maxHeartbeats 4000000 in
theorem fitsMethod_6 (op n locals size:Int) (hk:opdI op=6) (t:ByteArray) (b:Bool) (c m d:ByteArray) (w:World):Calls Tryz.prog 223 #[.agg #[.int .i64 op,.int .i64 n,.string t,.bool b,.string c,.string m,.string d],.int .i64 locals,.int .i64 size] w fun e w'=>e=.returned (.bool (fmB (opdI op) n locals size))∧Below w.heap.size w w':=by
  have HO:=operand_any op
  rw [hk] at HO
  have HO:Hid (∀ w,_):=HO
  have HR:fmB (opdI op) n locals size=true:=by rw [hk];rfl
  rw [HR]
  clear hk HR
  go_enter Tryz.func223,Tryz.ntmps223
  go_wp2_with (go_at_call 233;refine ((HO.out) _).mono ?_;rintro e w0 ⟨rfl,hw0⟩;rw [hw0];clear hw0 HO)
  go_ret
  exact ⟨ret_bool rfl,(Below.refl _ _).alloc (Nat.le_refl _) _⟩
set_option maxHeartbeats 4000000 in
theorem ownParts_7 (op n:Int) (hk:opdI op=7) (t:ByteArray) (b:Bool) (c m d:ByteArray) (w:World):Calls Tryz.prog 231 #[.agg #[.int .i64 op,.int .i64 n,.string t,.bool b,.string c,.string m,.string d]] w fun e w'=>e=.returned (insV (ownI ⟨op,n,t,b,c,m,d⟩))∧Below w.heap.size w w':=by
  have HO:=operand_any op
  rw [hk] at HO
  have HO:Hid (∀ w,_):=HO
  have HR:insV (ownI ⟨op,n,t,b,c,m,d⟩)=.agg #[.int .i64 op,.int .i64 n,.string t,.bool false,.string ⟨#[]⟩,.string ⟨#[]⟩,.string ⟨#[]⟩]:=by unfold ownI;simp only [hk];rfl
  rw [HR]
  clear hk HR
  go_enter Tryz.func231,Tryz.ntmps231
  go_wp2_with (go_at_call 233;refine ((HO.out) _).mono ?_;rintro e w0 ⟨rfl,hw0⟩;rw [hw0];clear hw0 HO)
  refine bodyPost_ret (v:=.agg #[.int .i64 op,.int .i64 n,.string t,.bool false,.string ⟨#[]⟩,.string ⟨#[]⟩,.string ⟨#[]⟩]) (by simp [results,Tryz.results231,go_sem, *]) rfl ⟨rfl,?_⟩
  exact ((Below.refl _ _).alloc (Nat.le_refl _) _).alloc (by simp) _
set_option maxHeartbeats 4000000 in
theorem fitsMethod_7 (op n locals size:Int) (hk:opdI op=7) (t:ByteArray) (b:Bool) (c m d:ByteArray) (w:World):Calls Tryz.prog 223 #[.agg #[.int .i64 op,.int .i64 n,.string t,.bool b,.string c,.string m,.string d],.int .i64 locals,.int .i64 size] w fun e w'=>e=.returned (.bool (fmB (opdI op) n locals size))∧Below w.heap.size w w':=by
  have HO:=operand_any op
  rw [hk] at HO
  have HO:Hid (∀ w,_):=HO
  have HR:fmB (opdI op) n locals size=true:=by rw [hk];rfl
  rw [HR]
  clear hk HR
  go_enter Tryz.func223,Tryz.ntmps223
  go_wp2_with (go_at_call 233;refine ((HO.out) _).mono ?_;rintro e w0 ⟨rfl,hw0⟩;rw [hw0];clear hw0 HO)
  go_ret
  exact ⟨ret_bool rfl,(Below.refl _ _).alloc (Nat.le_refl _) _⟩
set_option maxHeartbeats 4000000 in
theorem ownParts_8 (op n:Int) (hk:opdI op=8) (t:ByteArray) (b:Bool) (c m d:ByteArray) (w:World):Calls Tryz.prog 231 #[.agg #[.int .i64 op,.int .i64 n,.string t,.bool b,.string c,.string m,.string d]] w fun e w'=>e=.returned (insV (ownI ⟨op,n,t,b,c,m,d⟩))∧Below w.heap.size w w':=by
  have HO:=operand_any op
  rw [hk] at HO
  have HO:Hid (∀ w,_):=HO
  have HR:insV (ownI ⟨op,n,t,b,c,m,d⟩)=.agg #[.int .i64 op,.int .i64 0,.string ⟨#[]⟩,.bool b,.string c,.string m,.string d]:=by unfold ownI;simp only [hk];rfl
  rw [HR]
  clear hk HR
  go_enter Tryz.func231,Tryz.ntmps231
  go_wp2_with (go_at_call 233;refine ((HO.out) _).mono ?_;rintro e w0 ⟨rfl,hw0⟩;rw [hw0];clear hw0 HO)
  refine bodyPost_ret (v:=.agg #[.int .i64 op,.int .i64 0,.string ⟨#[]⟩,.bool b,.string c,.string m,.string d]) (by simp [results,Tryz.results231,go_sem, *]) rfl ⟨rfl,?_⟩
  exact ((Below.refl _ _).alloc (Nat.le_refl _) _).alloc (by simp) _
set_option maxHeartbeats 4000000 in
theorem fitsMethod_8 (op n locals size:Int) (hk:opdI op=8) (t:ByteArray) (b:Bool) (c m d:ByteArray) (w:World):Calls Tryz.prog 223 #[.agg #[.int .i64 op,.int .i64 n,.string t,.bool b,.string c,.string m,.string d],.int .i64 locals,.int .i64 size] w fun e w'=>e=.returned (.bool (fmB (opdI op) n locals size))∧Below w.heap.size w w':=by
  have HO:=operand_any op
  rw [hk] at HO
  have HO:Hid (∀ w,_):=HO
  have HR:fmB (opdI op) n locals size=true:=by rw [hk];rfl
  rw [HR]
  clear hk HR
  go_enter Tryz.func223,Tryz.ntmps223
  go_wp2_with (go_at_call 233;refine ((HO.out) _).mono ?_;rintro e w0 ⟨rfl,hw0⟩;rw [hw0];clear hw0 HO)
  go_ret
  exact ⟨ret_bool rfl,(Below.refl _ _).alloc (Nat.le_refl _) _⟩
end Go.Proofs.YtfjekhmnjfcbeaaGreat
