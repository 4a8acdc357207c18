import Derived.Test.YtjbmmmcjegjelaaGreatVtD
import Derived.Test.YtjbmmmcjegjelaaGreatRnF
import Derived.Test.YtjbmmmcjegjelaaGreatLcQ
import Derived.Test.YtjbmmmcjegjelaaGreatRfB
import Derived.Test.YtjbmmmcjegjelaaGreatOvD
import Derived.Test.YtjbmmmcjegjelaaGreatGrA
import Derived.Test.YtjbmmmcjegjelaaGreatMxC
import Derived.ArgAppend
import Derived.Deep.DeepCutAuto
import Derived.Lib.SmallJoins
set_option maxHeartbeats 8000000
set_option maxRecDepth 100000
namespace Go.Proofs.YtjbmmmcjegjelaaGreat
open Go.RowKit Go.Maps
abbrev Sl:=(Int×Int)×(Int×Int)
def S5.pr (x:S5):Sl:=(x.r,x.m)
def inhP (A:Int×Int→List (Int×Int)) (id:Int) (x:Sl):Sl:=match (A x.1).find? (fun y=>y.1 == id) with
  | some y=>(x.1,y)
  | none=>x
theorem inhS_pr (A:Int×Int→List (Int×Int)) (id:Int) (x:S5):(inhS A id x).pr=inhP A id x.pr:=by
  have e:x.pr=(x.r,x.m):=rfl
  rw [e,inhS,inhP]
  simp only
  cases (A x.r).find? (fun y=>y.1 == id) <;> rfl
def ownP (inh:List Sl) (own:Int×Int) (m:HM):Bool:=vrtB m.nm m.fl&&!(opnB m.fl&&inh.any fun x=>(x.2.1 == own.1)&&(x.2.2 == own.2))
def addP (id:Int) (inh:List Sl) (ms:List HM) (i:Nat):List Sl:=match ms with
  | []=>[]
  | m::r=>(if ownP inh (id,(i:Int)) m then [((id,(i:Int)),(id,(i:Int)))] else [])++addP id inh r (i+1)
theorem Zgj (id:Int) (inh:List Sl) (m:HM):∀ (ms:List HM) (i:Nat),addP id inh (ms++[m]) i=addP id inh ms i++(if ownP inh (id,((i+ms.length:Nat):Int)) m then [((id,((i+ms.length:Nat):Int)),(id,((i+ms.length:Nat):Int)))] else [])
  | [],i=>by simp [addP]
  | x::r,i=>by
    rw [List.cons_append,addP,addP,Zgj id inh m r (i+1),List.append_assoc,List.length_cons,show i+1+r.length=i+(r.length+1) by omega]
theorem Za4 (id:Int) (inh:List Sl):∀ (ms:List HM) (i:Nat),(addP id inh ms i).length≤ms.length
  | [],i=>by simp [addP]
  | x::r,i=>by
    rw [addP,List.length_append,List.length_cons]
    have:=Za4 id inh r (i+1)
    split <;> simp <;> omega
def grwP (A:Int×Int→List (Int×Int)) (id:Int) (ms:List HM) (l:List Sl):List Sl:=l.map (inhP A id)++addP id (l.map (inhP A id)) ms 0
theorem Zhh {w w':World} {B1 B2 T1 T2 s1 s2:Nat} {v1 v2:Value} {n1 n2:Nat} {x1 x2:List Value} (h1:w.ownsRow B1 T1 s1 v1 n1 x1) (h2:w.ownsRow B2 T2 s2 v2 n2 x2) (hT:T1≠T2) (hg:w.grownBy w' v2.ownBlock):w'.ownsRow B1 T1 s1 v1 n1 x1:=by
  refine ⟨h1.1,?_⟩
  rcases h1.2 with e|⟨g,cap,cur,e1,e2,e3,e4⟩
  · exact .inl e
  · refine .inr ⟨g,cap,cur,e1,e2,(hg.block g (Array.getElem?_eq_some_iff.1 e3).1 fun hk=>?_).trans e3,e4⟩
    rcases h2.2 with ⟨f,_⟩|⟨g2,cap2,cur2,f1,_,f3,_⟩
    · rw [f] at hk;cases hk
    · rw [f1] at hk
      simp only [Value.ownBlock,Option.some.injEq] at hk
      subst hk
      rw [e3] at f3
      simp only [Option.some.injEq,Obj.cells.injEq] at f3
      exact hT f3.2.1
theorem Zhi {w w':World} {B T s:Nat} {v:Value} {n:Nat} {xs:List Value} (h:w.ownsRow B T s v n xs) (hg:w.grownBy w' none):w'.ownsRow B T s v n xs:=by
  refine ⟨h.1,?_⟩
  rcases h.2 with e|⟨g,cap,cur,e1,e2,e3,e4⟩
  · exact .inl e
  · exact .inr ⟨g,cap,cur,e1,e2,(hg.block g (Array.getElem?_eq_some_iff.1 e3).1 (by simp)).trans e3,e4⟩
theorem own_cap {w:World} {N e s n c:Nat} {a:Option Addr} {xs:List Value} (h:w.ownsRow N e s (.slice a n c) n xs):n≤c:=by
  rcases h.2 with ⟨_,e2⟩|⟨_,_,_,e,_,_,h5,_⟩
  · omega
  · injection e with _ _ e3
    omega
theorem rds_cut {w:World} {va:Option Addr} {n vc k:Nat} {xs:List Value} (h:Rds w (.slice va n vc) n k xs):Rds w (.slice va n n) n k xs:=by
  refine ⟨h.len,?_⟩
  rcases h.val with ⟨e,e2⟩|⟨bk,o,cap,e,h1,h2,h3,h4⟩
  · injection e with e1 e3 e4
    subst e1 e2
    exact .inl ⟨rfl,rfl⟩
  · injection e with e1 e3 e4
    subst e1
    exact .inr ⟨bk,o,n,rfl,Nat.le_refl _,by omega,h3,h4⟩
def TabS (w:World) (N:Nat) (va:Option Addr) (n:Nat) (sv:Value) (L X:List S5):Prop:=(X=[]∧sv=.slice va n n)∨w.ownsRow N 102 5 sv (L++X).length (flat5 (L++X))
theorem grow_w (W:World) (b:Nat) (k:Nat) (q:Plc) (A:Int×Int→List (Int×Int)) (l:List S5) (v:Value) (hv:Rds W v l.length 5 (flat5 l)) (hn:l.length≤300000000) (hms:q.c.ms.length≤1000000)
    (HIN:Hid (Calls Tryz.prog 81 #[v,.int .i64 (k:Int)] W fun e w'=>(∃ v',e=.returned v'∧w'.ownsRow W.heap.size 102 5 v' l.length (flat5 (l.map (inhS A (k:Int)))))∧Below W.heap.size W w'))
    (HCL:Hid (∀ w,Below W.heap.size W w→Calls Tryz.prog 82 #[.pointer (some ⟨b,0,none⟩),.int .i64 (k:Int)] w fun e w'=>(∃ vi vm qm,e=.returned (.tuple #[.agg #[.string q.c.nm,.string q.c.su,vi,.int .i64 q.c.fl,.int .i64 q.c.ld,vm],.int .i64 0])∧OwnC w' w.heap.size vi q.c.ni q.c.xi vm qm∧qm.map Prod.fst=q.c.ms)∧Below w.heap.size w w'))
    (HNS:Hid (∀ (i:Nat) w,i<q.c.ms.length→Below W.heap.size W w→Calls Tryz.prog 85 #[.pointer (some ⟨b,0,none⟩),.agg #[.int .i64 (k:Int),.int .i64 (i:Int)]] w fun e w'=>(∃ oa oc,e=.returned (.agg #[.int .i64 (k:Int),.int .i64 (i:Int),.int .i64 (k:Int),.int .i64 (i:Int),.slice oa (A ((k:Int),(i:Int))).length oc])∧w'.ownsRow w.heap.size 39 2 (.slice oa (A ((k:Int),(i:Int))).length oc) (A ((k:Int),(i:Int))).length (Zm (A ((k:Int),(i:Int)))))∧Below w.heap.size w w'))
    (HSL:Hid (SlW A W l)) :
    Calls Tryz.prog 52 #[.pointer (some ⟨b,0,none⟩),v,.int .i64 (k:Int)] W fun e w'=>(∃ v' Y,e=.returned v'∧Rds w' v' Y.length 5 (flat5 Y)∧SlW A w' Y∧Y.map S5.pr=grwP A (k:Int) q.c.ms (l.map S5.pr)∧∀ bk o n' c',v'=.slice (some ⟨bk,o,none⟩) n' c'→W.heap.size≤bk)∧Below W.heap.size W w':=by
  obtain ⟨i0,hi0,hz0,hz1,hz2⟩:=info_parts Tryz.hinfoS5
  obtain ⟨va0,vc0,rfl⟩:=hv.slice
  clear hv
  obtain ⟨L,hL⟩:∃ L,l.map (inhS A (k:Int))=L:=⟨_,rfl⟩
  have HLn:Hid (L.length=l.length):=by rw [Hid,← hL,List.length_map]
  have HLP:Hid (L.map S5.pr=(l.map S5.pr).map (inhP A (k:Int))):=by
    rw [Hid,← hL,List.map_map,List.map_map]
    exact List.map_congr_left fun x _=>inhS_pr A (k:Int) x
  have HSLL:Hid (SlW A W L):=fun x hx=>by
    rw [← hL] at hx
    obtain ⟨y,hy,rfl⟩:=List.mem_map.1 hx
    obtain ⟨e1,e2,e3,e4⟩:=inhS_r A (k:Int) y
    rw [e1,e2,e3,e4]
    exact HSL.out y hy
  rw [hL] at HIN
  clear hL HSL
  generalize l.map S5.pr=lp at *
  generalize l.length=n at *
  have hmap0:∀ a:Option Addr,Option.map (fun x:Addr=>x.add 0) a=a:=fun a=>by
    cases a with
    | none=>rfl
    | some a=>simp [Addr.add]
  go_enter Tryz.func52,Tryz.ntmps52
  go_wp2_with (first
    | (go_at_call 81;refine HIN.out.mono ?_;rintro e w1 ⟨⟨v',rfl,ho⟩,hb⟩;obtain ⟨va,vc,rfl⟩:=ownv ho;have O1:Hid (w1.ownsRow W.heap.size 102 5 (.slice va n vc) n (flat5 L)):=ho;have hvc:n≤vc:=own_cap ho;have B1:Hid (Below W.heap.size W w1):=hb;clear ho hb HIN)
    | (go_at_call 82;refine (HCL.out _ B1.out).mono ?_;rintro e w2 ⟨⟨vi,vm,qm,rfl,hoc,hqm⟩,hb⟩;obtain ⟨ia,ic,rfl⟩:=ownv hoc.ifs;obtain ⟨ma,mc,rfl⟩:=ownv hoc.ms;have OM:Hid (w2.ownsRow w1.heap.size 64 6 (.slice ma qm.length mc) qm.length (Zx qm)):=hoc.ms;have HQM:Hid (qm.map Prod.fst=q.c.ms):=hqm;have HCOD:Hid (∀ p∈qm,∃ a c,p.2=.slice a p.1.n c):=(fun p hp=>ownv (hoc.cod p hp));have O2:Hid (w2.ownsRow W.heap.size 102 5 (.slice va n vc) n (flat5 L)):=Za O1.out hb;have B2:Hid (Below W.heap.size W w2):=Zc B1.out hb;clear hb hoc hqm HCL O1))
  obtain ⟨K,hK⟩:∃ K,qm.length=K:=⟨_,rfl⟩
  have HK:Hid (qm.length=K):=hK
  have hKb:K≤1000000:=by
    have:=congrArg List.length HQM.out
    rw [List.length_map,hK] at this
    omega
  have HKm:Hid (q.c.ms.length=K):=by rw [Hid,← HQM.out,List.length_map,hK]
  rw [hK] at OM ⊢
  obtain ⟨U,hU⟩:∃ U,U=w2.alloc (.cells #[.string q.c.nm,.string q.c.su,.slice ia q.c.ni ic,.int .i64 q.c.fl,.int .i64 q.c.ld,.slice ma K mc] 54):=⟨_,rfl⟩
  have BU:Hid (Below W.heap.size W U):=by rw [hU];exact B2.out.alloc B2.out.size _
  have OMU:Hid (U.ownsRow w1.heap.size 64 6 (.slice ma K mc) K (Zx qm)):=by rw [hU];exact OM.out.alloc _
  have OU:Hid (U.ownsRow W.heap.size 102 5 (.slice va n vc) n (flat5 L)):=by rw [hU];exact O2.out.alloc _
  rw [← hU]
  clear hU hK OM O2 hms B1 B2
  go_loopw [8,32] (fun sv kv wr=>∃ (i:Nat) (X:List S5) (ta:Option Addr) (tn tc:Nat),sv=.slice ta tn tc∧kv=.int .i64 i∧i≤K∧Hid (TabS wr U.heap.size va n (.slice ta tn tc) L X)∧Hid (X.map S5.pr=addP (k:Int) (L.map S5.pr) (q.c.ms.take i) 0)∧Hid (SlW A wr X)∧Hid (Below U.heap.size U wr)) (fun _ kv _=>K - (intOf kv).toNat)
  case atStart=>exact ⟨0,[],_,_,_,rfl,rfl,Nat.zero_le _,.inl ⟨rfl,rfl⟩,rfl,fun x hx=>(by cases hx),Below.refl _ _⟩
  case round =>
    obtain ⟨i,X,ta,tn,tc,rfl,rfl,hi,hT,hX,hSX,hB⟩:=hrel
    have BWr:Hid (Below W.heap.size W wr):=BU.out.trans (hB.out.mono BU.out.size)
    by_cases hlt:i<K
    · have hiI:(i:Int)<(K:Int):=by omega
      obtain ⟨⟨m,um⟩,hm⟩:∃ m,qm[i]?=some m:=⟨_,List.getElem?_eq_getElem (by rw [HK.out];exact hlt)⟩
      have hmm:q.c.ms[i]?=some m:=by rw [← HQM.out,List.getElem?_map,hm];rfl
      obtain ⟨gm,cm,hform⟩:=Go.Joins.ownsRow_form OMU.out (by omega)
      injection hform with hca _ hcc
      subst hca hcc
      obtain ⟨ua,uc,hum⟩:=HCOD.out (m,um) (List.mem_of_getElem? hm)
      simp only at hum
      subst hum
      have hcell:=fun j (hj:j<6)=>((Za OMU.out hB.out).cellAt (i * 6+j) (by have:=Xk qm;have:=HK.out;omega)).trans (Zv qm i (m,_) hm j hj)
      have c0:=hcell 0 (by omega)
      have c1:=hcell 1 (by omega)
      have c2:=hcell 2 (by omega)
      have c3:=hcell 3 (by omega)
      have c4:=hcell 4 (by omega)
      have c5:=hcell 5 (by omega)
      simp only [hmC,List.getElem?_cons_zero,List.getElem?_cons_succ,Nat.add_zero] at c0 c1 c2 c3 c4 c5
      have HADD:Hid (addP (k:Int) (L.map S5.pr) (q.c.ms.take (i+1)) 0=addP (k:Int) (L.map S5.pr) (q.c.ms.take i) 0++(if (vrtB m.nm m.fl&&!(opnB m.fl&&L.any fun x=>(x.m.1 == (k:Int))&&(x.m.2 == (i:Int)))) then [(((k:Int),(i:Int)),((k:Int),(i:Int)))] else [])):=by
        have h1:(q.c.ms.take i).length=i:=by rw [List.length_take,HKm.out];omega
        have h2:((L.map S5.pr).any fun x=>(x.2.1 == (k:Int))&&(x.2.2 == (i:Int)))=L.any fun x=>(x.m.1 == (k:Int))&&(x.m.2 == (i:Int)):=by rw [List.any_map];rfl
        rw [Hid,List.take_add_one,hmm,Option.toList_some,Zgj,h1,Nat.zero_add,ownP]
        simp only [h2]
      have HV:Hid (∀ w:World,Calls Tryz.prog 31 #[.agg #[.string m.nm,.string m.ds,.int .i64 m.fl,.int .i64 m.lo,.int .i64 m.st,.slice ua m.n uc]] w fun e w'=>e=.returned (.bool (vrtB m.nm m.fl))∧Below w.heap.size w w'):=fun w=>isVrt_c m.nm m.ds m.fl m.lo m.st ua m.n uc w
      have HOP:Hid (∀ w:World,Calls Tryz.prog 83 #[.agg #[.string m.nm,.string m.ds,.int .i64 m.fl,.int .i64 m.lo,.int .i64 m.st,.slice ua m.n uc]] w fun e w'=>e=.returned (.bool (opnB m.fl))∧Below w.heap.size w w'):=fun w=>isOpn_c m.nm m.ds m.fl m.lo m.st ua m.n uc w
      have HST:Hid (∀ w,Below wr.heap.size wr w→Calls Tryz.prog 84 #[.slice va n vc,.agg #[.int .i64 (k:Int),.int .i64 (i:Int)]] w fun e w'=>e=.returned (.bool (L.any fun x=>(x.m.1 == (k:Int))&&(x.m.2 == (i:Int))))∧Below w.heap.size w w'):=fun w hb=>by
        have:=stIn_c W.heap.size L (.slice va n vc) (k:Int) (i:Int) w (by rw [HLn.out];exact Za (Za OU.out hB.out) hb) (by have:=HLn.out;omega)
        exact this
      obtain ⟨AL,hAL⟩:∃ AL,(A ((k:Int),(i:Int))).length=AL:=⟨_,rfl⟩
      have HAL:Hid ((A ((k:Int),(i:Int))).length=AL):=hAL
      have HNW:Hid (∀ w,Below wr.heap.size wr w→Calls Tryz.prog 85 #[.pointer (some ⟨b,0,none⟩),.agg #[.int .i64 (k:Int),.int .i64 (i:Int)]] w fun e w'=>(∃ oa oc,e=.returned (.agg #[.int .i64 (k:Int),.int .i64 (i:Int),.int .i64 (k:Int),.int .i64 (i:Int),.slice oa AL oc])∧w'.ownsRow w.heap.size 39 2 (.slice oa AL oc) AL (Zm (A ((k:Int),(i:Int)))))∧Below w.heap.size w w'):=fun w hb=>by
        have:=HNS.out i w (by rw [HKm.out];exact hlt) (Zc BWr.out hb)
        rw [hAL] at this
        exact this
      generalize vrtB m.nm m.fl=vr at *
      generalize opnB m.fl=op at *
      generalize (L.any fun x=>(x.m.1 == (k:Int))&&(x.m.2 == (i:Int)))=sn at *
      clear hm hmm hcell hAL
      have HTN:Hid (tn=(L++X).length):=by
        rcases hT.out with ⟨e,e2⟩|h
        · injection e2 with _ e3 _
          rw [Hid,e,List.append_nil,HLn.out,e3]
        · obtain ⟨a,c,e⟩:=ownv h
          injection e with _ e2 _
      have hXb:X.length≤1000000:=by
        have h1:=congrArg List.length hX.out
        rw [List.length_map] at h1
        have h2:=Za4 (k:Int) (L.map S5.pr) (q.c.ms.take i) 0
        rw [List.length_take] at h2
        omega
      have htb:tn≤301000000:=by have h1:=HTN.out;have h2:=HLn.out;rw [List.length_append] at h1;omega
      have TAB:Hid (∀ w,Below wr.heap.size wr w→TabS w U.heap.size va n (.slice ta tn tc) L X):=fun w hb=>hT.out.imp id (fun h=>Za h hb)
      rcases hT.out with ⟨hX0,hsv⟩|hrow
      · have HX0:Hid (X=[]):=hX0
        injection hsv with s1 s2 s3
        have HE1:Hid (ta=va):=s1
        have HE2:Hid (tn=n):=s2
        have HE3:Hid (tc=n):=s3
        clear hX0 s1 s2 s3
        have HLL:Hid ((flat5 L).length=tn * 5):=by rw [Hid,flat5_length,HLn.out,HE2.out]
        have HLX:Hid (flat5 L=flat5 (L++X)):=by rw [Hid,HX0.out,List.append_nil]
        have HNO:Hid (ta=none→tn=0∧tc=0):=fun h=>by
          rcases (Za OU.out hB.out).2 with ⟨e,e2⟩|⟨_,_,_,e,_⟩
          · have:=HE2.out;have:=HE3.out;omega
          · injection e with e3 _ _;rw [← HE1.out,h] at e3;cases e3
        have HRD:Hid (∀ w,Below wr.heap.size wr w→∀ o:Obj,∀ bb,ta=some bb→∀ j u,(flat5 L)[j]?=some u→(w.alloc o).cell? (bb.add j)=some u):=fun w hb o bb hbb j u hj=>by
          have h2:=(Z2 (Za (Za OU.out hB.out) hb)).keep ((Below.refl _ w).alloc (Nat.le_refl _) o)
          rcases h2.val with ⟨e,_⟩|⟨bk,o2,cap,e,_,_,_,h4⟩
          · injection e with e1 _ _;rw [← HE1.out,hbb] at e1;cases e1
          · injection e with e1 _ _
            rw [← HE1.out,hbb] at e1
            injection e1 with e1
            subst e1
            rw [Addr.add_lit]
            exact h4 j u hj
        cases vr
        case false =>
          clear HOP HST HNW
          have HNX:Hid (X.map S5.pr=addP (k:Int) (L.map S5.pr) (q.c.ms.take (i+1)) 0):=by rw [Hid,HADD.out,hX.out];simp
          clear HADD
          go_wp2_with (first
            | (go_at_call 31;refine (HV.out _).mono ?_;rintro e w3 ⟨rfl,hb⟩;have mbd:=kp6 (n:=wr.heap.size) hb (by simp;try omega) (Zj (Zl _ _));obtain ⟨mbB,mb0,mb1,mb2,mb3,mb4,mb5,mbf,mbL,mbN⟩:=mbd;have obd:=kp2 (n:=wr.heap.size+1) hb (by simp;try omega) (Ze _ _ (by simp));obtain ⟨obB,ob0,ob1,obf,obL,obN⟩:=obd;have BR:Hid (Below wr.heap.size wr w3):=Zc (((Below.refl _ wr).alloc (Nat.le_refl _) _).alloc (by simp) _) hb;clear hb HV))
          go_roundw
          case rel=>exact ⟨i+1,X,ta,tn,tc,rfl,by go_num,by omega,TAB.out _ BR.out,HNX,hSX.out.keep BR.out,hB.out.trans (BR.out.mono hB.out.size)⟩
          case measure=>simp [intOf];omega
        case true =>
          cases op
          case false =>
            clear HST
            have HNX:Hid (X.map S5.pr++[(((k:Int),(i:Int)),((k:Int),(i:Int)))]=addP (k:Int) (L.map S5.pr) (q.c.ms.take (i+1)) 0):=by rw [Hid,HADD.out,hX.out];simp
            clear HADD
            go_wp2_with (first
              | (go_at_call 31;refine (HV.out _).mono ?_;rintro e w3 ⟨rfl,hb⟩;have mbd:=kp6 (n:=wr.heap.size) hb (by simp;try omega) (Zj (Zl _ _));obtain ⟨mbB,mb0,mb1,mb2,mb3,mb4,mb5,mbf,mbL,mbN⟩:=mbd;have obd:=kp2 (n:=wr.heap.size+1) hb (by simp;try omega) (Ze _ _ (by simp));obtain ⟨obB,ob0,ob1,obf,obL,obN⟩:=obd;have BR:Hid (Below wr.heap.size wr w3):=Zc (((Below.refl _ wr).alloc (Nat.le_refl _) _).alloc (by simp) _) hb;clear hb HV)
              | (go_at_call 83;refine (HOP.out _).mono ?_;rintro e w4 ⟨rfl,hb⟩;have mbd:=kp6 (n:=wr.heap.size) hb mbL mbB.out;clear mbB mb0 mb1 mb2 mb3 mb4 mb5 mbf mbL mbN;obtain ⟨mbB,mb0,mb1,mb2,mb3,mb4,mb5,mbf,mbL,mbN⟩:=mbd;have obd:=kp2 (n:=wr.heap.size+1) hb obL obB.out;clear obB ob0 ob1 obf obL obN;obtain ⟨obB,ob0,ob1,obf,obL,obN⟩:=obd;have BR2:Below wr.heap.size wr w4:=Zc BR.out hb;clear BR;have BR:Hid (Below wr.heap.size wr w4):=BR2;clear BR2;clear hb HOP)
              | (go_at_call 85;refine (HNW.out _ BR.out).mono ?_;rintro e w6 ⟨⟨oa,oc,rfl,ho⟩,hb⟩;have ON:Hid (w6.ownsRow 0 39 2 (.slice oa AL oc) AL (Zm (A ((k:Int),(i:Int))))):=Go.Joins.ownsRow_le ho (Nat.zero_le _);have BR2:Below wr.heap.size wr w6:=Zc BR.out hb;clear BR;have BR:Hid (Below wr.heap.size wr w6):=BR2;clear BR2 hb ho HNW)
              | (at_builtin;refine wpList_append_grows _ rfl _ _ 96 rfl 102 i0 (.agg #[.int .i64 0,.int .i64 0,.int .i64 0,.int .i64 0,.slice none 0 0]) 5 56 Tryz.underlying96 hi0 hz0 hz1 hz2 rfl (by decide) ta tn tc (flat5 L) rfl HNO.out HLL.out (HRD.out _ BR.out _) ⟨w6.heap.size,0,none⟩ 1 1 [.int .i64 (k:Int),.int .i64 (i:Int),.int .i64 (k:Int),.int .i64 (i:Int),.slice oa AL oc] rfl rfl ?c1 ?c2 ?c3 ?c4 ?c5 ?_))
            case c1=>intro jj u hj;rw [addr_add];match jj,hj with
            | 0,hj=>simp at hj;subst hj;simp [go_sem]
            | 1,hj=>simp at hj;subst hj;simp [go_sem]
            | 2,hj=>simp at hj;subst hj;simp [go_sem]
            | 3,hj=>simp at hj;subst hj;simp [go_sem]
            | 4,hj=>simp at hj;subst hj;simp [go_sem]
            | (jj+5),hj=>simp at hj
            case c2=>intro u hu;simp at hu;rcases hu with rfl|rfl|rfl|rfl|rfl <;> rfl
            case c3=>have:=HE2.out;have:=HE3.out;omega
            case c4=>unfold maxLen;omega
            case c5=>omega
            intro v7 w7 hown hgrow
            obtain ⟨a7,c7,rfl⟩:=ownv hown
            have B7:Hid (Below U.heap.size U w7):=by
              have hb1:Below U.heap.size U (w6.alloc (.cells #[.int .i64 (k:Int),.int .i64 (i:Int),.int .i64 (k:Int),.int .i64 (i:Int),.slice oa AL oc] 102)):=(hB.out.trans (BR.out.mono hB.out.size)).alloc (Nat.le_trans hB.out.size BR.out.size) _
              refine hb1.grown hgrow hb1.size (fun x hx=>?_)
              cases hx
            have O7:Hid (w7.ownsRow U.heap.size 102 5 (.slice a7 (tn+1) c7) (L++(X++[(⟨((k:Int),(i:Int)),((k:Int),(i:Int)),oa,AL,oc⟩:S5)])).length (flat5 (L++(X++[(⟨((k:Int),(i:Int)),((k:Int),(i:Int)),oa,AL,oc⟩:S5)])))):=by
              have e1:flat5 (L++(X++[(⟨((k:Int),(i:Int)),((k:Int),(i:Int)),oa,AL,oc⟩:S5)]))=flat5 (L++X)++[.int .i64 (k:Int),.int .i64 (i:Int),.int .i64 (k:Int),.int .i64 (i:Int),.slice oa AL oc]:=by rw [← List.append_assoc,Ju];rfl
              have e2:(L++(X++[(⟨((k:Int),(i:Int)),((k:Int),(i:Int)),oa,AL,oc⟩:S5)])).length=tn+1:=by have:=HTN.out;simp at this ⊢;omega
              rw [Hid,e1,e2]
              rw [← HLX.out];exact Go.Joins.ownsRow_le hown (by have:=hB.out.size;have:=BR.out.size;simp;omega)
            have S7:Hid (SlW A w7 (X++[(⟨((k:Int),(i:Int)),((k:Int),(i:Int)),oa,AL,oc⟩:S5)])):=by
              intro x hx
              have hx6:(w6.alloc (.cells #[.int .i64 (k:Int),.int .i64 (i:Int),.int .i64 (k:Int),.int .i64 (i:Int),.slice oa AL oc] 102)).ownsRow 0 39 2 (.slice x.oa x.on x.oc) (A x.r).length (Zm (A x.r)):=by
                rcases List.mem_append.1 hx with hx|hx
                · exact (Za (hSX.out x hx) BR.out).alloc _
                · rw [List.mem_singleton] at hx
                  subst hx
                  rw [← HAL.out] at ON
                  simp only
                  rw [← HAL.out]
                  exact ON.out.alloc _
              exact Zhi hx6 hgrow
            clear hown hgrow
            go_wp2
            go_roundw
            case rel=>exact ⟨i+1,_,a7,tn+1,c7,rfl,by go_num,by omega,.inr O7.out,by rw [List.map_append];exact HNX,S7,B7⟩
            case measure=>simp [intOf];omega
          case true =>
            cases sn
            case false =>
              have HNX:Hid (X.map S5.pr++[(((k:Int),(i:Int)),((k:Int),(i:Int)))]=addP (k:Int) (L.map S5.pr) (q.c.ms.take (i+1)) 0):=by rw [Hid,HADD.out,hX.out];simp
              clear HADD
              go_wp2_with (first
                | (go_at_call 31;refine (HV.out _).mono ?_;rintro e w3 ⟨rfl,hb⟩;have mbd:=kp6 (n:=wr.heap.size) hb (by simp;try omega) (Zj (Zl _ _));obtain ⟨mbB,mb0,mb1,mb2,mb3,mb4,mb5,mbf,mbL,mbN⟩:=mbd;have obd:=kp2 (n:=wr.heap.size+1) hb (by simp;try omega) (Ze _ _ (by simp));obtain ⟨obB,ob0,ob1,obf,obL,obN⟩:=obd;have BR:Hid (Below wr.heap.size wr w3):=Zc (((Below.refl _ wr).alloc (Nat.le_refl _) _).alloc (by simp) _) hb;clear hb HV)
                | (go_at_call 83;refine (HOP.out _).mono ?_;rintro e w4 ⟨rfl,hb⟩;have mbd:=kp6 (n:=wr.heap.size) hb mbL mbB.out;clear mbB mb0 mb1 mb2 mb3 mb4 mb5 mbf mbL mbN;obtain ⟨mbB,mb0,mb1,mb2,mb3,mb4,mb5,mbf,mbL,mbN⟩:=mbd;have obd:=kp2 (n:=wr.heap.size+1) hb obL obB.out;clear obB ob0 ob1 obf obL obN;obtain ⟨obB,ob0,ob1,obf,obL,obN⟩:=obd;have BR2:Below wr.heap.size wr w4:=Zc BR.out hb;clear BR;have BR:Hid (Below wr.heap.size wr w4):=BR2;clear BR2;clear hb HOP)
                | (go_at_call 84;refine (HST.out _ BR.out).mono ?_;rintro e w5 ⟨rfl,hb⟩;have mbd:=kp6 (n:=wr.heap.size) hb mbL mbB.out;clear mbB mb0 mb1 mb2 mb3 mb4 mb5 mbf mbL mbN;obtain ⟨mbB,mb0,mb1,mb2,mb3,mb4,mb5,mbf,mbL,mbN⟩:=mbd;have obd:=kp2 (n:=wr.heap.size+1) hb obL obB.out;clear obB ob0 ob1 obf obL obN;obtain ⟨obB,ob0,ob1,obf,obL,obN⟩:=obd;have BR2:Below wr.heap.size wr w5:=Zc BR.out hb;clear BR;have BR:Hid (Below wr.heap.size wr w5):=BR2;clear BR2;clear hb HST)
                | (go_at_call 85;refine (HNW.out _ BR.out).mono ?_;rintro e w6 ⟨⟨oa,oc,rfl,ho⟩,hb⟩;have ON:Hid (w6.ownsRow 0 39 2 (.slice oa AL oc) AL (Zm (A ((k:Int),(i:Int))))):=Go.Joins.ownsRow_le ho (Nat.zero_le _);have BR2:Below wr.heap.size wr w6:=Zc BR.out hb;clear BR;have BR:Hid (Below wr.heap.size wr w6):=BR2;clear BR2 hb ho HNW)
                | (at_builtin;refine wpList_append_grows _ rfl _ _ 96 rfl 102 i0 (.agg #[.int .i64 0,.int .i64 0,.int .i64 0,.int .i64 0,.slice none 0 0]) 5 56 Tryz.underlying96 hi0 hz0 hz1 hz2 rfl (by decide) ta tn tc (flat5 L) rfl HNO.out HLL.out (HRD.out _ BR.out _) ⟨w6.heap.size,0,none⟩ 1 1 [.int .i64 (k:Int),.int .i64 (i:Int),.int .i64 (k:Int),.int .i64 (i:Int),.slice oa AL oc] rfl rfl ?c1 ?c2 ?c3 ?c4 ?c5 ?_))
              case c1=>intro jj u hj;rw [addr_add];match jj,hj with
            | 0,hj=>simp at hj;subst hj;simp [go_sem]
            | 1,hj=>simp at hj;subst hj;simp [go_sem]
            | 2,hj=>simp at hj;subst hj;simp [go_sem]
            | 3,hj=>simp at hj;subst hj;simp [go_sem]
            | 4,hj=>simp at hj;subst hj;simp [go_sem]
            | (jj+5),hj=>simp at hj
              case c2=>intro u hu;simp at hu;rcases hu with rfl|rfl|rfl|rfl|rfl <;> rfl
              case c3=>have:=HE2.out;have:=HE3.out;omega
              case c4=>unfold maxLen;omega
              case c5=>omega
              intro v7 w7 hown hgrow
              obtain ⟨a7,c7,rfl⟩:=ownv hown
              have B7:Hid (Below U.heap.size U w7):=by
                have hb1:Below U.heap.size U (w6.alloc (.cells #[.int .i64 (k:Int),.int .i64 (i:Int),.int .i64 (k:Int),.int .i64 (i:Int),.slice oa AL oc] 102)):=(hB.out.trans (BR.out.mono hB.out.size)).alloc (Nat.le_trans hB.out.size BR.out.size) _
                refine hb1.grown hgrow hb1.size (fun x hx=>?_)
                cases hx
              have O7:Hid (w7.ownsRow U.heap.size 102 5 (.slice a7 (tn+1) c7) (L++(X++[(⟨((k:Int),(i:Int)),((k:Int),(i:Int)),oa,AL,oc⟩:S5)])).length (flat5 (L++(X++[(⟨((k:Int),(i:Int)),((k:Int),(i:Int)),oa,AL,oc⟩:S5)])))):=by
                have e1:flat5 (L++(X++[(⟨((k:Int),(i:Int)),((k:Int),(i:Int)),oa,AL,oc⟩:S5)]))=flat5 (L++X)++[.int .i64 (k:Int),.int .i64 (i:Int),.int .i64 (k:Int),.int .i64 (i:Int),.slice oa AL oc]:=by rw [← List.append_assoc,Ju];rfl
                have e2:(L++(X++[(⟨((k:Int),(i:Int)),((k:Int),(i:Int)),oa,AL,oc⟩:S5)])).length=tn+1:=by have:=HTN.out;simp at this ⊢;omega
                rw [Hid,e1,e2]
                rw [← HLX.out];exact Go.Joins.ownsRow_le hown (by have:=hB.out.size;have:=BR.out.size;simp;omega)
              have S7:Hid (SlW A w7 (X++[(⟨((k:Int),(i:Int)),((k:Int),(i:Int)),oa,AL,oc⟩:S5)])):=by
                intro x hx
                have hx6:(w6.alloc (.cells #[.int .i64 (k:Int),.int .i64 (i:Int),.int .i64 (k:Int),.int .i64 (i:Int),.slice oa AL oc] 102)).ownsRow 0 39 2 (.slice x.oa x.on x.oc) (A x.r).length (Zm (A x.r)):=by
                  rcases List.mem_append.1 hx with hx|hx
                  · exact (Za (hSX.out x hx) BR.out).alloc _
                  · rw [List.mem_singleton] at hx
                    subst hx
                    rw [← HAL.out] at ON
                    simp only
                    rw [← HAL.out]
                    exact ON.out.alloc _
                exact Zhi hx6 hgrow
              clear hown hgrow
              go_wp2
              go_roundw
              case rel=>exact ⟨i+1,_,a7,tn+1,c7,rfl,by go_num,by omega,.inr O7.out,by rw [List.map_append];exact HNX,S7,B7⟩
              case measure=>simp [intOf];omega
            case true =>
              clear HNW
              have HNX:Hid (X.map S5.pr=addP (k:Int) (L.map S5.pr) (q.c.ms.take (i+1)) 0):=by rw [Hid,HADD.out,hX.out];simp
              clear HADD
              go_wp2_with (first
                | (go_at_call 31;refine (HV.out _).mono ?_;rintro e w3 ⟨rfl,hb⟩;have mbd:=kp6 (n:=wr.heap.size) hb (by simp;try omega) (Zj (Zl _ _));obtain ⟨mbB,mb0,mb1,mb2,mb3,mb4,mb5,mbf,mbL,mbN⟩:=mbd;have obd:=kp2 (n:=wr.heap.size+1) hb (by simp;try omega) (Ze _ _ (by simp));obtain ⟨obB,ob0,ob1,obf,obL,obN⟩:=obd;have BR:Hid (Below wr.heap.size wr w3):=Zc (((Below.refl _ wr).alloc (Nat.le_refl _) _).alloc (by simp) _) hb;clear hb HV)
                | (go_at_call 83;refine (HOP.out _).mono ?_;rintro e w4 ⟨rfl,hb⟩;have mbd:=kp6 (n:=wr.heap.size) hb mbL mbB.out;clear mbB mb0 mb1 mb2 mb3 mb4 mb5 mbf mbL mbN;obtain ⟨mbB,mb0,mb1,mb2,mb3,mb4,mb5,mbf,mbL,mbN⟩:=mbd;have obd:=kp2 (n:=wr.heap.size+1) hb obL obB.out;clear obB ob0 ob1 obf obL obN;obtain ⟨obB,ob0,ob1,obf,obL,obN⟩:=obd;have BR2:Below wr.heap.size wr w4:=Zc BR.out hb;clear BR;have BR:Hid (Below wr.heap.size wr w4):=BR2;clear BR2;clear hb HOP)
                | (go_at_call 84;refine (HST.out _ BR.out).mono ?_;rintro e w5 ⟨rfl,hb⟩;have mbd:=kp6 (n:=wr.heap.size) hb mbL mbB.out;clear mbB mb0 mb1 mb2 mb3 mb4 mb5 mbf mbL mbN;obtain ⟨mbB,mb0,mb1,mb2,mb3,mb4,mb5,mbf,mbL,mbN⟩:=mbd;have obd:=kp2 (n:=wr.heap.size+1) hb obL obB.out;clear obB ob0 ob1 obf obL obN;obtain ⟨obB,ob0,ob1,obf,obL,obN⟩:=obd;have BR2:Below wr.heap.size wr w5:=Zc BR.out hb;clear BR;have BR:Hid (Below wr.heap.size wr w5):=BR2;clear BR2;clear hb HST))
              go_roundw
              case rel=>exact ⟨i+1,X,ta,tn,tc,rfl,by go_num,by omega,TAB.out _ BR.out,HNX,hSX.out.keep BR.out,hB.out.trans (BR.out.mono hB.out.size)⟩
              case measure=>simp [intOf];omega
      · have HRW:Hid (wr.ownsRow U.heap.size 102 5 (.slice ta tn tc) tn (flat5 (L++X))):=by
          rw [Hid]
          have h1:=HTN.out
          rw [← h1] at hrow
          exact hrow
        clear hrow
        cases vr
        case false =>
          clear HOP HST HNW
          have HNX:Hid (X.map S5.pr=addP (k:Int) (L.map S5.pr) (q.c.ms.take (i+1)) 0):=by rw [Hid,HADD.out,hX.out];simp
          clear HADD
          go_wp2_with (first
            | (go_at_call 31;refine (HV.out _).mono ?_;rintro e w3 ⟨rfl,hb⟩;have mbd:=kp6 (n:=wr.heap.size) hb (by simp;try omega) (Zj (Zl _ _));obtain ⟨mbB,mb0,mb1,mb2,mb3,mb4,mb5,mbf,mbL,mbN⟩:=mbd;have obd:=kp2 (n:=wr.heap.size+1) hb (by simp;try omega) (Ze _ _ (by simp));obtain ⟨obB,ob0,ob1,obf,obL,obN⟩:=obd;have BR:Hid (Below wr.heap.size wr w3):=Zc (((Below.refl _ wr).alloc (Nat.le_refl _) _).alloc (by simp) _) hb;clear hb HV))
          go_roundw
          case rel=>exact ⟨i+1,X,ta,tn,tc,rfl,by go_num,by omega,TAB.out _ BR.out,HNX,hSX.out.keep BR.out,hB.out.trans (BR.out.mono hB.out.size)⟩
          case measure=>simp [intOf];omega
        case true =>
          cases op
          case false =>
            clear HST
            have HNX:Hid (X.map S5.pr++[(((k:Int),(i:Int)),((k:Int),(i:Int)))]=addP (k:Int) (L.map S5.pr) (q.c.ms.take (i+1)) 0):=by rw [Hid,HADD.out,hX.out];simp
            clear HADD
            go_wp2_with (first
              | (go_at_call 31;refine (HV.out _).mono ?_;rintro e w3 ⟨rfl,hb⟩;have mbd:=kp6 (n:=wr.heap.size) hb (by simp;try omega) (Zj (Zl _ _));obtain ⟨mbB,mb0,mb1,mb2,mb3,mb4,mb5,mbf,mbL,mbN⟩:=mbd;have obd:=kp2 (n:=wr.heap.size+1) hb (by simp;try omega) (Ze _ _ (by simp));obtain ⟨obB,ob0,ob1,obf,obL,obN⟩:=obd;have BR:Hid (Below wr.heap.size wr w3):=Zc (((Below.refl _ wr).alloc (Nat.le_refl _) _).alloc (by simp) _) hb;clear hb HV)
              | (go_at_call 83;refine (HOP.out _).mono ?_;rintro e w4 ⟨rfl,hb⟩;have mbd:=kp6 (n:=wr.heap.size) hb mbL mbB.out;clear mbB mb0 mb1 mb2 mb3 mb4 mb5 mbf mbL mbN;obtain ⟨mbB,mb0,mb1,mb2,mb3,mb4,mb5,mbf,mbL,mbN⟩:=mbd;have obd:=kp2 (n:=wr.heap.size+1) hb obL obB.out;clear obB ob0 ob1 obf obL obN;obtain ⟨obB,ob0,ob1,obf,obL,obN⟩:=obd;have BR2:Below wr.heap.size wr w4:=Zc BR.out hb;clear BR;have BR:Hid (Below wr.heap.size wr w4):=BR2;clear BR2;clear hb HOP)
              | (go_at_call 85;refine (HNW.out _ BR.out).mono ?_;rintro e w6 ⟨⟨oa,oc,rfl,ho⟩,hb⟩;have ON:Hid (w6.ownsRow 0 39 2 (.slice oa AL oc) AL (Zm (A ((k:Int),(i:Int))))):=Go.Joins.ownsRow_le ho (Nat.zero_le _);have BR2:Below wr.heap.size wr w6:=Zc BR.out hb;clear BR;have BR:Hid (Below wr.heap.size wr w6):=BR2;clear BR2 hb ho HNW)
              | (at_builtin;refine wpList_append_own _ rfl _ _ 96 rfl U.heap.size 102 i0 (.agg #[.int .i64 0,.int .i64 0,.int .i64 0,.int .i64 0,.slice none 0 0]) 5 56 Tryz.underlying96 hi0 hz0 hz1 hz2 rfl (by decide) (.slice ta tn tc) tn (flat5 (L++X)) rfl ((Za HRW.out BR.out).alloc _) ⟨w6.heap.size,0,none⟩ 1 1 [.int .i64 (k:Int),.int .i64 (i:Int),.int .i64 (k:Int),.int .i64 (i:Int),.slice oa AL oc] rfl rfl ?c1 ?c2 ?c3 ?c4 ?c5 ?_))
            case c1=>intro jj u hj;rw [addr_add];match jj,hj with
            | 0,hj=>simp at hj;subst hj;simp [go_sem]
            | 1,hj=>simp at hj;subst hj;simp [go_sem]
            | 2,hj=>simp at hj;subst hj;simp [go_sem]
            | 3,hj=>simp at hj;subst hj;simp [go_sem]
            | 4,hj=>simp at hj;subst hj;simp [go_sem]
            | (jj+5),hj=>simp at hj
            case c2=>intro u hu;simp at hu;rcases hu with rfl|rfl|rfl|rfl|rfl <;> rfl
            case c3=>unfold maxLen;omega
            case c4=>omega
            case c5=>have:=hB.out.size;have:=BR.out.size;simp;omega
            intro v7 w7 hown hgrow _
            obtain ⟨a7,c7,rfl⟩:=ownv hown
            have B7:Hid (Below U.heap.size U w7):=by
              have hb1:Below U.heap.size U (w6.alloc (.cells #[.int .i64 (k:Int),.int .i64 (i:Int),.int .i64 (k:Int),.int .i64 (i:Int),.slice oa AL oc] 102)):=(hB.out.trans (BR.out.mono hB.out.size)).alloc (Nat.le_trans hB.out.size BR.out.size) _
              refine hb1.grown hgrow hb1.size (fun x hx=>?_)
              have:=(HRW.out.lt x hx).1
              omega
            have O7:Hid (w7.ownsRow U.heap.size 102 5 (.slice a7 (tn+1) c7) (L++(X++[(⟨((k:Int),(i:Int)),((k:Int),(i:Int)),oa,AL,oc⟩:S5)])).length (flat5 (L++(X++[(⟨((k:Int),(i:Int)),((k:Int),(i:Int)),oa,AL,oc⟩:S5)])))):=by
              have e1:flat5 (L++(X++[(⟨((k:Int),(i:Int)),((k:Int),(i:Int)),oa,AL,oc⟩:S5)]))=flat5 (L++X)++[.int .i64 (k:Int),.int .i64 (i:Int),.int .i64 (k:Int),.int .i64 (i:Int),.slice oa AL oc]:=by rw [← List.append_assoc,Ju];rfl
              have e2:(L++(X++[(⟨((k:Int),(i:Int)),((k:Int),(i:Int)),oa,AL,oc⟩:S5)])).length=tn+1:=by have:=HTN.out;simp at this ⊢;omega
              rw [Hid,e1,e2]
              exact hown
            have S7:Hid (SlW A w7 (X++[(⟨((k:Int),(i:Int)),((k:Int),(i:Int)),oa,AL,oc⟩:S5)])):=by
              intro x hx
              have hx6:(w6.alloc (.cells #[.int .i64 (k:Int),.int .i64 (i:Int),.int .i64 (k:Int),.int .i64 (i:Int),.slice oa AL oc] 102)).ownsRow 0 39 2 (.slice x.oa x.on x.oc) (A x.r).length (Zm (A x.r)):=by
                rcases List.mem_append.1 hx with hx|hx
                · exact (Za (hSX.out x hx) BR.out).alloc _
                · rw [List.mem_singleton] at hx
                  subst hx
                  rw [← HAL.out] at ON
                  simp only
                  rw [← HAL.out]
                  exact ON.out.alloc _
              exact Zhh hx6 ((Za HRW.out BR.out).alloc _) (by decide) hgrow
            clear hown hgrow
            go_wp2
            go_roundw
            case rel=>exact ⟨i+1,_,a7,tn+1,c7,rfl,by go_num,by omega,.inr O7.out,by rw [List.map_append];exact HNX,S7,B7⟩
            case measure=>simp [intOf];omega
          case true =>
            cases sn
            case false =>
              have HNX:Hid (X.map S5.pr++[(((k:Int),(i:Int)),((k:Int),(i:Int)))]=addP (k:Int) (L.map S5.pr) (q.c.ms.take (i+1)) 0):=by rw [Hid,HADD.out,hX.out];simp
              clear HADD
              go_wp2_with (first
                | (go_at_call 31;refine (HV.out _).mono ?_;rintro e w3 ⟨rfl,hb⟩;have mbd:=kp6 (n:=wr.heap.size) hb (by simp;try omega) (Zj (Zl _ _));obtain ⟨mbB,mb0,mb1,mb2,mb3,mb4,mb5,mbf,mbL,mbN⟩:=mbd;have obd:=kp2 (n:=wr.heap.size+1) hb (by simp;try omega) (Ze _ _ (by simp));obtain ⟨obB,ob0,ob1,obf,obL,obN⟩:=obd;have BR:Hid (Below wr.heap.size wr w3):=Zc (((Below.refl _ wr).alloc (Nat.le_refl _) _).alloc (by simp) _) hb;clear hb HV)
                | (go_at_call 83;refine (HOP.out _).mono ?_;rintro e w4 ⟨rfl,hb⟩;have mbd:=kp6 (n:=wr.heap.size) hb mbL mbB.out;clear mbB mb0 mb1 mb2 mb3 mb4 mb5 mbf mbL mbN;obtain ⟨mbB,mb0,mb1,mb2,mb3,mb4,mb5,mbf,mbL,mbN⟩:=mbd;have obd:=kp2 (n:=wr.heap.size+1) hb obL obB.out;clear obB ob0 ob1 obf obL obN;obtain ⟨obB,ob0,ob1,obf,obL,obN⟩:=obd;have BR2:Below wr.heap.size wr w4:=Zc BR.out hb;clear BR;have BR:Hid (Below wr.heap.size wr w4):=BR2;clear BR2;clear hb HOP)
                | (go_at_call 84;refine (HST.out _ BR.out).mono ?_;rintro e w5 ⟨rfl,hb⟩;have mbd:=kp6 (n:=wr.heap.size) hb mbL mbB.out;clear mbB mb0 mb1 mb2 mb3 mb4 mb5 mbf mbL mbN;obtain ⟨mbB,mb0,mb1,mb2,mb3,mb4,mb5,mbf,mbL,mbN⟩:=mbd;have obd:=kp2 (n:=wr.heap.size+1) hb obL obB.out;clear obB ob0 ob1 obf obL obN;obtain ⟨obB,ob0,ob1,obf,obL,obN⟩:=obd;have BR2:Below wr.heap.size wr w5:=Zc BR.out hb;clear BR;have BR:Hid (Below wr.heap.size wr w5):=BR2;clear BR2;clear hb HST)
                | (go_at_call 85;refine (HNW.out _ BR.out).mono ?_;rintro e w6 ⟨⟨oa,oc,rfl,ho⟩,hb⟩;have ON:Hid (w6.ownsRow 0 39 2 (.slice oa AL oc) AL (Zm (A ((k:Int),(i:Int))))):=Go.Joins.ownsRow_le ho (Nat.zero_le _);have BR2:Below wr.heap.size wr w6:=Zc BR.out hb;clear BR;have BR:Hid (Below wr.heap.size wr w6):=BR2;clear BR2 hb ho HNW)
                | (at_builtin;refine wpList_append_own _ rfl _ _ 96 rfl U.heap.size 102 i0 (.agg #[.int .i64 0,.int .i64 0,.int .i64 0,.int .i64 0,.slice none 0 0]) 5 56 Tryz.underlying96 hi0 hz0 hz1 hz2 rfl (by decide) (.slice ta tn tc) tn (flat5 (L++X)) rfl ((Za HRW.out BR.out).alloc _) ⟨w6.heap.size,0,none⟩ 1 1 [.int .i64 (k:Int),.int .i64 (i:Int),.int .i64 (k:Int),.int .i64 (i:Int),.slice oa AL oc] rfl rfl ?c1 ?c2 ?c3 ?c4 ?c5 ?_))
              case c1=>intro jj u hj;rw [addr_add];match jj,hj with
            | 0,hj=>simp at hj;subst hj;simp [go_sem]
            | 1,hj=>simp at hj;subst hj;simp [go_sem]
            | 2,hj=>simp at hj;subst hj;simp [go_sem]
            | 3,hj=>simp at hj;subst hj;simp [go_sem]
            | 4,hj=>simp at hj;subst hj;simp [go_sem]
            | (jj+5),hj=>simp at hj
              case c2=>intro u hu;simp at hu;rcases hu with rfl|rfl|rfl|rfl|rfl <;> rfl
              case c3=>unfold maxLen;omega
              case c4=>omega
              case c5=>have:=hB.out.size;have:=BR.out.size;simp;omega
              intro v7 w7 hown hgrow _
              obtain ⟨a7,c7,rfl⟩:=ownv hown
              have B7:Hid (Below U.heap.size U w7):=by
                have hb1:Below U.heap.size U (w6.alloc (.cells #[.int .i64 (k:Int),.int .i64 (i:Int),.int .i64 (k:Int),.int .i64 (i:Int),.slice oa AL oc] 102)):=(hB.out.trans (BR.out.mono hB.out.size)).alloc (Nat.le_trans hB.out.size BR.out.size) _
                refine hb1.grown hgrow hb1.size (fun x hx=>?_)
                have:=(HRW.out.lt x hx).1
                omega
              have O7:Hid (w7.ownsRow U.heap.size 102 5 (.slice a7 (tn+1) c7) (L++(X++[(⟨((k:Int),(i:Int)),((k:Int),(i:Int)),oa,AL,oc⟩:S5)])).length (flat5 (L++(X++[(⟨((k:Int),(i:Int)),((k:Int),(i:Int)),oa,AL,oc⟩:S5)])))):=by
                have e1:flat5 (L++(X++[(⟨((k:Int),(i:Int)),((k:Int),(i:Int)),oa,AL,oc⟩:S5)]))=flat5 (L++X)++[.int .i64 (k:Int),.int .i64 (i:Int),.int .i64 (k:Int),.int .i64 (i:Int),.slice oa AL oc]:=by rw [← List.append_assoc,Ju];rfl
                have e2:(L++(X++[(⟨((k:Int),(i:Int)),((k:Int),(i:Int)),oa,AL,oc⟩:S5)])).length=tn+1:=by have:=HTN.out;simp at this ⊢;omega
                rw [Hid,e1,e2]
                exact hown
              have S7:Hid (SlW A w7 (X++[(⟨((k:Int),(i:Int)),((k:Int),(i:Int)),oa,AL,oc⟩:S5)])):=by
                intro x hx
                have hx6:(w6.alloc (.cells #[.int .i64 (k:Int),.int .i64 (i:Int),.int .i64 (k:Int),.int .i64 (i:Int),.slice oa AL oc] 102)).ownsRow 0 39 2 (.slice x.oa x.on x.oc) (A x.r).length (Zm (A x.r)):=by
                  rcases List.mem_append.1 hx with hx|hx
                  · exact (Za (hSX.out x hx) BR.out).alloc _
                  · rw [List.mem_singleton] at hx
                    subst hx
                    rw [← HAL.out] at ON
                    simp only
                    rw [← HAL.out]
                    exact ON.out.alloc _
                exact Zhh hx6 ((Za HRW.out BR.out).alloc _) (by decide) hgrow
              clear hown hgrow
              go_wp2
              go_roundw
              case rel=>exact ⟨i+1,_,a7,tn+1,c7,rfl,by go_num,by omega,.inr O7.out,by rw [List.map_append];exact HNX,S7,B7⟩
              case measure=>simp [intOf];omega
            case true =>
              clear HNW
              have HNX:Hid (X.map S5.pr=addP (k:Int) (L.map S5.pr) (q.c.ms.take (i+1)) 0):=by rw [Hid,HADD.out,hX.out];simp
              clear HADD
              go_wp2_with (first
                | (go_at_call 31;refine (HV.out _).mono ?_;rintro e w3 ⟨rfl,hb⟩;have mbd:=kp6 (n:=wr.heap.size) hb (by simp;try omega) (Zj (Zl _ _));obtain ⟨mbB,mb0,mb1,mb2,mb3,mb4,mb5,mbf,mbL,mbN⟩:=mbd;have obd:=kp2 (n:=wr.heap.size+1) hb (by simp;try omega) (Ze _ _ (by simp));obtain ⟨obB,ob0,ob1,obf,obL,obN⟩:=obd;have BR:Hid (Below wr.heap.size wr w3):=Zc (((Below.refl _ wr).alloc (Nat.le_refl _) _).alloc (by simp) _) hb;clear hb HV)
                | (go_at_call 83;refine (HOP.out _).mono ?_;rintro e w4 ⟨rfl,hb⟩;have mbd:=kp6 (n:=wr.heap.size) hb mbL mbB.out;clear mbB mb0 mb1 mb2 mb3 mb4 mb5 mbf mbL mbN;obtain ⟨mbB,mb0,mb1,mb2,mb3,mb4,mb5,mbf,mbL,mbN⟩:=mbd;have obd:=kp2 (n:=wr.heap.size+1) hb obL obB.out;clear obB ob0 ob1 obf obL obN;obtain ⟨obB,ob0,ob1,obf,obL,obN⟩:=obd;have BR2:Below wr.heap.size wr w4:=Zc BR.out hb;clear BR;have BR:Hid (Below wr.heap.size wr w4):=BR2;clear BR2;clear hb HOP)
                | (go_at_call 84;refine (HST.out _ BR.out).mono ?_;rintro e w5 ⟨rfl,hb⟩;have mbd:=kp6 (n:=wr.heap.size) hb mbL mbB.out;clear mbB mb0 mb1 mb2 mb3 mb4 mb5 mbf mbL mbN;obtain ⟨mbB,mb0,mb1,mb2,mb3,mb4,mb5,mbf,mbL,mbN⟩:=mbd;have obd:=kp2 (n:=wr.heap.size+1) hb obL obB.out;clear obB ob0 ob1 obf obL obN;obtain ⟨obB,ob0,ob1,obf,obL,obN⟩:=obd;have BR2:Below wr.heap.size wr w5:=Zc BR.out hb;clear BR;have BR:Hid (Below wr.heap.size wr w5):=BR2;clear BR2;clear hb HST))
              go_roundw
              case rel=>exact ⟨i+1,X,ta,tn,tc,rfl,by go_num,by omega,TAB.out _ BR.out,HNX,hSX.out.keep BR.out,hB.out.trans (BR.out.mono hB.out.size)⟩
              case measure=>simp [intOf];omega
    · have e:i=K:=by omega
      subst e
      have HXE:Hid (X.map S5.pr=addP (k:Int) (L.map S5.pr) q.c.ms 0):=by
        have:=hX.out
        rw [List.take_of_length_le (by rw [HKm.out];exact Nat.le_refl _)] at this
        exact this
      have HTL:Hid (tn=(L++X).length):=by
        rcases hT.out with ⟨e,e2⟩|h
        · injection e2 with _ e3 _
          rw [Hid,e,List.append_nil,HLn.out,e3]
        · obtain ⟨a,c,e⟩:=ownv h
          injection e with _ e2 _
      have HBK:Hid (∀ bk o n' c',Value.slice ta tn tc=.slice (some ⟨bk,o,none⟩) n' c'→W.heap.size≤bk):=fun bk o n' c' he=>by
        injection he with he1 _ _
        rcases hT.out with ⟨_,e2⟩|h
        · injection e2 with e3 _ _
          rcases (Za OU.out hB.out).2 with ⟨f,_⟩|⟨g,_,_,f,hg,_⟩
          · injection f with f1 _ _;rw [← e3,he1] at f1;cases f1
          · injection f with f1 _ _
            rw [← e3,he1] at f1
            injection f1 with f1
            injection f1 with f1 _ _
            omega
        · rcases h.2 with ⟨f,_⟩|⟨g,_,_,f,hg,_⟩
          · injection f with f1 _ _;rw [he1] at f1;cases f1
          · injection f with f1 _ _
            rw [he1] at f1
            injection f1 with f1
            injection f1 with f1 _ _
            have:=BU.out.size
            omega
      have HR:Hid (Rds wr (.slice ta tn tc) (L++X).length 5 (flat5 (L++X))):=by
        rcases hT.out with ⟨e,e2⟩|h
        · rw [Hid,e2,e,List.append_nil,HLn.out]
          exact rds_cut (Z2 (Za OU.out hB.out))
        · exact Z2 h
      go_wp2
      refine bodyPost_ret (v:=.slice ta tn tc) (by simp [results,Tryz.results52,go_sem]) rfl ⟨⟨_,L++X,rfl,HR.out,fun x hx=>?_,?_,HBK.out⟩,BWr.out⟩
      · rcases List.mem_append.1 hx with hx|hx
        · exact (HSLL.out.keep BWr.out) x hx
        · exact hSX.out x hx
      · rw [List.map_append,HXE.out,grwP,HLP.out]
def vrI (ps:List Plc) (c:Int) (x:HM):Bool:=!ifcI ps c&&vrtB x.nm x.fl
theorem r13vir_w {b:Nat} {cs:List Cls} {ps:List Plc} {W:World} (h:RAt b cs W) (ht:TwW cs ps) (c i:Int) (x:HM) (hx:Zp ps c i=some x) (fc h8 h2 ini:Bool) (hfc:ifcI ps c=fc) (hh8:hasI x.fl 8=h8) (hh2:hasI x.fl 2=h2) (hin:(x.nm.toList == [60,105,110,105,116,62])=ini):Calls Tryz.prog 36 #[.pointer (some ⟨b,0,none⟩),.agg #[.int .i64 c,.int .i64 i]] W fun e w'=>e=.returned (.bool (!fc&&(!h8&&(!h2&&!ini))))∧Below W.heap.size W w':=by
  have HI:Hid (∀ w,Below W.heap.size W w→Calls Tryz.prog 26 #[.pointer (some ⟨b,0,none⟩),.int .i64 c] w fun e w'=>e=.returned (.bool fc)∧w'=w):=fun w hb=>by
    have:=Xb (h.below hb) c
    rw [Zbk ht,hfc] at this
    exact this
  have H8:Hid (∀ w:World,Calls Tryz.prog 46 #[.int .i64 x.fl,.int .i64 8] w fun e w'=>e=.returned (.bool h8)∧w'=w):=fun w=>by
    have:=Z3 x.fl 8 w
    rw [hh8] at this
    exact this
  have H2:Hid (∀ w:World,Calls Tryz.prog 46 #[.int .i64 x.fl,.int .i64 2] w fun e w'=>e=.returned (.bool h2)∧w'=w):=fun w=>by
    have:=Z3 x.fl 2 w
    rw [hh2] at this
    exact this
  obtain ⟨k,q,rfl,hq,_,_⟩:=Y0 hx
  obtain ⟨g,cap,bk,n,cm,j,ac,cc,rfl,b0,hlt,hgl,hkI,c5,hbk,hjn,e0,e1,e2,e3,e4,e5,_,_,_⟩:=h.meth ht hx
  clear h ht hx hq hh8 hh2 hfc
  have hB:Below W.heap.size W (W.alloc (.cells #[.int .i64 (k:Int),.int .i64 (j:Int)] 39)):=(Below.refl _ W).alloc (Nat.le_refl _) _
  have hA:(W.alloc (.cells #[.int .i64 (k:Int),.int .i64 (j:Int)] 39)).heap[W.heap.size]?=some (.cells #[.int .i64 (k:Int),.int .i64 (j:Int)] 39 (0,0)):=Zl _ _
  have hS:(W.alloc (.cells #[.int .i64 (k:Int),.int .i64 (j:Int)] 39)).heap.size=W.heap.size+1:=by simp
  replace b0:=(hB.cell (p:=⟨b,0,none⟩) hlt).trans b0
  replace c5:=(hB.cell (p:=⟨g,k * 6+5,none⟩) hgl).trans c5
  replace e0:=(hB.cell (p:=⟨bk,j * 6,none⟩) hbk).trans e0
  replace e1:=(hB.cell (p:=⟨bk,j * 6+1,none⟩) hbk).trans e1
  replace e2:=(hB.cell (p:=⟨bk,j * 6+2,none⟩) hbk).trans e2
  replace e3:=(hB.cell (p:=⟨bk,j * 6+3,none⟩) hbk).trans e3
  replace e4:=(hB.cell (p:=⟨bk,j * 6+4,none⟩) hbk).trans e4
  replace e5:=(hB.cell (p:=⟨bk,j * 6+5,none⟩) hbk).trans e5
  obtain ⟨a0,a1,af,aL⟩:=rw2 hA
  have HBH:Hid _:=hB
  clear hA hB
  go_enter Tryz.func36,Tryz.ntmps36
  go_wp2
  generalize (W.alloc (.cells #[.int .i64 (k:Int),.int .i64 (j:Int)] 39))=U at *
  have y1:¬ bk=U.heap.size:=by omega
  have y2:¬ g=U.heap.size:=by omega
  have y3:¬ b=U.heap.size:=by omega
  have y4:¬ W.heap.size=U.heap.size:=by omega
  go_region
  cases fc
  case' false=>cases h8
  case' false.false=>cases h2
  case' false.false.false=>cases ini
  all_goals
    go_wp2_with (first
      | (go_at_call 26;refine (HI.out _ (by repeat (first|refine Below.setCell ?_ (by simp;try omega) _|refine Below.alloc ?_ (by first|omega|(simp;omega)) _|refine Below.drew ?_|exact HBH.out))).mono ?_;rintro e w9 ⟨rfl,hw9⟩;rw [hw9];clear hw9 w9 HI)
      | (go_at_call 46;refine (H8.out _).mono ?_;rintro e w9 ⟨rfl,hw9⟩;rw [hw9];clear hw9 w9 H8)
      | (go_at_call 46;refine (H2.out _).mono ?_;rintro e w9 ⟨rfl,hw9⟩;rw [hw9];clear hw9 w9 H2))
  all_goals go_ret
  all_goals exact ⟨retB (by simp [*]),(by repeat (first|refine Below.setCell ?_ (by simp;try omega) _|refine Below.alloc ?_ (by first|omega|(simp;omega)) _|refine Below.drew ?_|exact HBH.out))⟩
theorem r13vir_c {b:Nat} {cs:List Cls} {ps:List Plc} {W:World} (h:RAt b cs W) (ht:TwW cs ps) (c i:Int) (x:HM) (hx:Zp ps c i=some x):Calls Tryz.prog 36 #[.pointer (some ⟨b,0,none⟩),.agg #[.int .i64 c,.int .i64 i]] W fun e w'=>e=.returned (.bool (vrI ps c x))∧Below W.heap.size W w':=by
  have e:vrI ps c x=(!ifcI ps c&&(!hasI x.fl 8&&(!hasI x.fl 2&&!(x.nm.toList == [60,105,110,105,116,62])))):=by
    have h10:=has10c x.fl
    have hb:(bits .and .i64 x.fl 10 == 0)=!hasI x.fl 10:=by
      rw [hasI]
      cases hz:(bits .and .i64 x.fl 10 == 0) <;> simp_all
    rw [vrI,vrtB,hb,h10]
    cases hasI x.fl 2 <;> cases hasI x.fl 8 <;> rfl
  rw [e]
  exact r13vir_w h ht c i x hx _ _ _ _ rfl rfl rfl rfl
theorem rSup_c {b:Nat} {cs:List Cls} {ps:List Plc} {W:World} (h:RAt b cs W) (ht:TwW cs ps) (d:Int):Calls Tryz.prog 53 #[.pointer (some ⟨b,0,none⟩),.int .i64 d] W fun e w'=>e=.returned (.tuple #[.int .i64 (supI ps d).1,.int .i64 (supI ps d).2])∧w'=W:=by
  rcases Zn ps d with ⟨h1,h2⟩|⟨k,q,rfl,hq,h1⟩
  · have e:supI ps d=(0,3):=by rw [supI,h1]
    rw [e]
    have HI:Hid (Calls Tryz.prog 25 #[.pointer (some ⟨b,0,none⟩),.int .i64 d] W fun e w'=>e=.returned (.bool false)∧w'=W):=by
      have:=Zbb h ht d
      rw [h1] at this
      exact this
    clear h ht h1 h2 e
    go_enter Tryz.func53,Tryz.ntmps53
    go_wp2_with (go_at_call 25;refine HI.out.mono ?_;rintro e w9 ⟨rfl,hw9⟩;rw [hw9];clear hw9 w9 HI)
    exact bodyPost_ret (results_tmp2 rfl _ _ _) rfl ⟨rfl,rfl⟩
  · have HI:Hid (Calls Tryz.prog 25 #[.pointer (some ⟨b,0,none⟩),.int .i64 (k:Int)] W fun e w'=>e=.returned (.bool true)∧w'=W):=by
      have:=Zbb h ht (k:Int)
      rw [h1] at this
      exact this
    by_cases h0:k=0
    · subst h0
      have e:supI ps ((0:Nat):Int)=(0,6):=by rw [supI,h1];rfl
      rw [e]
      clear h ht h1 hq e
      go_enter Tryz.func53,Tryz.ntmps53
      go_wp2_with (go_at_call 25;refine HI.out.mono ?_;rintro e w9 ⟨rfl,hw9⟩;rw [hw9];clear hw9 w9 HI)
      exact bodyPost_ret (results_tmp2 rfl _ _ _) rfl ⟨rfl,rfl⟩
    · have hkI:¬ (k:Int)=0:=by omega
      have e:supI ps (k:Int)=((q.sp:Int),0):=by rw [supI,h1];simp [h0]
      rw [e]
      obtain ⟨c,hc,_⟩:=ht.tw.at' hq
      have hlen:=ht.tw.len
      have hsu:=ht.super hc (by omega)
      have hsp:spO (ps.map nd) k=q.sp:=by rw [spO,nd_at' hq];rfl
      have HN:Hid (Calls Tryz.prog 45 #[.pointer (some ⟨b,0,none⟩),.string c.su] W fun e w'=>e=.returned (.int .i64 (q.sp:Int))∧w'=W):=by
        have:=Zaw h c.su (by have:=ht.wi.hi;omega)
        rw [hsu,hsp] at this
        exact this
      obtain ⟨g,cap,vi,vm,b0,hlt,hgl,c0,c1,c2,c3,c4,c5,_,_⟩:=h.cells hc
      have hkL:(k:Int)<(cs.length:Int):=by have:=(List.getElem?_eq_some_iff.1 hc).1;omega
      generalize cs.length=L at *
      generalize q.sp=sp at *
      clear h ht h1 hq e hc hsu hsp c0 c2 c3 c4 c5
      go_enter Tryz.func53,Tryz.ntmps53
      go_wp2_with (first
        | (go_at_call 25;refine HI.out.mono ?_;rintro e w9 ⟨rfl,hw9⟩;rw [hw9];clear hw9 w9 HI)
        | (go_at_call 45;refine HN.out.mono ?_;rintro e w9 ⟨rfl,hw9⟩;rw [hw9];clear hw9 w9 HN))
      exact bodyPost_ret (results_tmp2 rfl _ _ _) rfl ⟨rfl,rfl⟩
end Go.Proofs.YtjbmmmcjegjelaaGreat
