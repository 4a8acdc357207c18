import Derived.Test.YtenpnkkkjjdccaaGreatChC
import Derived.Test.YtenpnkkkjjdccaaGreatLxP
import Derived.Test.YtenpnkkkjjdccaaGreatHrR
import Derived.Test.YtenpnkkkjjdccaaGreatOvA
set_option maxRecDepth 100000
namespace Go.Proofs.YtenpnkkkjjdccaaGreat
open Go.RowKit Go.Maps
def nmdR (ps:List Plc) (c n ds:ByteArray):((Int×ByteArray)×Int)×Int :=
  if rckE c.data.toList n.data.toList ds.data.toList=0 then (if prfE c.data.toList=0 then (((((prfT c.data.toList).1:Int),tyS c.data.toList),(hldR ps ((prfT c.data.toList).1:Int) (tyS c.data.toList)).1),(hldR ps ((prfT c.data.toList).1:Int) (tyS c.data.toList)).2) else (((0,⟨#[]⟩),0),prfE c.data.toList)) else (((0,⟨#[]⟩),0),1)
def nmV (x:((Int×ByteArray)×Int)×Int):Value:=.tuple #[.agg #[.int .i64 x.1.1.1,.string x.1.1.2],.int .i64 x.1.2,.int .i64 x.2]
theorem tyS_size {l:List UInt8} (h:prfE l=0):(tyS l).size≤maxLen:=by
  have:=(prf_len2 l h).1
  rw [tyS]
  show (prfT l).2.toArray.size≤maxLen
  rw [List.size_toArray];unfold maxLen;omega
set_option maxHeartbeats 2000000 in
theorem nmd_c {b:Nat} {ps:List Plc} {W:World} (h:WAt b ps W) (y:Bool) (c n ds:ByteArray) (hc:c.size≤maxLen) (hn:n.size≤maxLen) (hd:ds.size≤maxLen):Calls Tryz.prog 222 #[.pointer (some ⟨b,0,none⟩),.agg #[.bool y,.string c,.string n,.string ds]] W fun e w'=>e=.returned (nmV (nmdR ps c n ds))∧Below W.heap.size W w':=by
  have HR:Hid (∀ w:World,Calls Tryz.prog 31 #[.agg #[.bool y,.string c,.string n,.string ds]] w fun e w'=>e=.returned (.int .i64 (rckE c.data.toList n.data.toList ds.data.toList))∧Below w.heap.size w w'):=refCheck_any y c n ds hc hn hd
  have HP:Hid (∀ w:World,Calls Tryz.prog 52 #[.string c] w fun e w'=>e=.returned (.tuple #[.agg #[.int .i64 ((prfT c.data.toList).1:Int),.string (tyS c.data.toList)],.int .i64 (prfE c.data.toList)])∧Below w.heap.size w w'):=parseRef_any c hc
  have HH:Hid (∀ w,Below W.heap.size W w→prfE c.data.toList=0→Calls Tryz.prog 94 #[.pointer (some ⟨b,0,none⟩),.agg #[.int .i64 ((prfT c.data.toList).1:Int),.string (tyS c.data.toList)]] w fun e w'=>e=.returned (.tuple #[.int .i64 (hldR ps ((prfT c.data.toList).1:Int) (tyS c.data.toList)).1,.int .i64 (hldR ps ((prfT c.data.toList).1:Int) (tyS c.data.toList)).2])∧Below w.heap.size w w'):=fun w hb h0=>hld_c (h.below hb) _ _ (tyS_size h0)
  unfold nmdR
  generalize rckE c.data.toList n.data.toList ds.data.toList=RK at *
  generalize hldR ps ((prfT c.data.toList).1:Int) (tyS c.data.toList)=HD at *
  generalize prfE c.data.toList=PE at *
  generalize ((prfT c.data.toList).1:Int)=t1 at *
  generalize tyS c.data.toList=t2 at *
  obtain ⟨k1,k2⟩:=HD
  simp only at HH ⊢
  clear h hc hn hd
  by_cases h1:RK=0
  · subst h1
    by_cases h2:PE=0
    · subst h2
      rw [if_pos rfl,if_pos rfl]
      replace HH:Hid _:=fun w hb=>HH.out w hb rfl
      go_enter Tryz.func222,Tryz.ntmps222
      go_wp2_with (first
        | (go_at_call 31;refine (HR.out _).mono ?_;rintro e w1 ⟨rfl,hb⟩;have rd:=kp4 (n:=W.heap.size) hb (by first|omega|(simp;try omega)) (hkeep (halloc1 _ _));(try clear rB r0 r1 r2 r3 rf rL rN);obtain ⟨rB,r0,r1,r2,r3,rf,rL,rN⟩:=rd;have zd:=kp2 (n:=W.heap.size+1) hb (by first|omega|(simp;try omega)) (halloc2 _ _ (by simp));(try clear zB z0 z1 zf zL zN);obtain ⟨zB,z0,z1,zf,zL,zN⟩:=zd;have Bw1:Hid (Below W.heap.size W w1):=bstep (by repeat (first|exact Below.refl _ _|refine Below.setCell ?_ (by simp;try omega) _|refine Below.alloc ?_ (by simp;try omega) _|refine Below.drew ?_)) hb;clear hb HR)
        | (go_at_call 52;refine (HP.out _).mono ?_;rintro e w2 ⟨rfl,hb⟩;have zd:=kp2 (n:=W.heap.size+1) hb (by first|omega|(simp;try omega)) (zB.out);(try clear zB z0 z1 zf zL zN);obtain ⟨zB,z0,z1,zf,zL,zN⟩:=zd;have Bw2:Hid (Below W.heap.size W w2):=bstep Bw1.out hb;clear hb HP)
        | (go_at_call 94;refine (HH.out _ (by repeat (first|refine Below.setCell ?_ (by simp;try omega) _|refine Below.alloc ?_ (by have:=Bw2.out.size;simp;try omega) _|refine Below.drew ?_|exact Bw2.out))).mono ?_;rintro e w3 ⟨rfl,hb⟩;have zd:=kp2 (n:=W.heap.size+1) hb (by first|omega|(simp;try omega)) (hkeep zB.out);(try clear zB z0 z1 zf zL zN);obtain ⟨zB,z0,z1,zf,zL,zN⟩:=zd;have vd:=kp2 (n:=w2.heap.size) hb (by first|omega|(simp;try omega)) (halloc1 _ _);(try clear vB v0 v1 vf vL vN);obtain ⟨vB,v0,v1,vf,vL,vN⟩:=vd;have Bw3:Hid (Below W.heap.size W w3):=bstep (by repeat (first|refine Below.setCell ?_ (by simp;try omega) _|refine Below.alloc ?_ (by have:=Bw2.out.size;simp;try omega) _|refine Below.drew ?_|exact Bw2.out)) hb;clear hb HH))
      exact bodyPost_ret (v:=nmV (((t1,t2),k1),k2)) (by simp [results,Tryz.results222,go_sem,nmV, *]) rfl ⟨rfl,(by repeat (first|refine Below.setCell ?_ (by simp;try omega) _|refine Below.alloc ?_ (by have:=Bw3.out.size;simp;try omega) _|refine Below.drew ?_|exact Bw3.out))⟩
    · rw [if_pos rfl,if_neg h2]
      clear HH
      go_enter Tryz.func222,Tryz.ntmps222
      go_wp2_with (first
        | (go_at_call 31;refine (HR.out _).mono ?_;rintro e w1 ⟨rfl,hb⟩;have rd:=kp4 (n:=W.heap.size) hb (by first|omega|(simp;try omega)) (hkeep (halloc1 _ _));(try clear rB r0 r1 r2 r3 rf rL rN);obtain ⟨rB,r0,r1,r2,r3,rf,rL,rN⟩:=rd;have zd:=kp2 (n:=W.heap.size+1) hb (by first|omega|(simp;try omega)) (halloc2 _ _ (by simp));(try clear zB z0 z1 zf zL zN);obtain ⟨zB,z0,z1,zf,zL,zN⟩:=zd;have Bw1:Hid (Below W.heap.size W w1):=bstep (by repeat (first|exact Below.refl _ _|refine Below.setCell ?_ (by simp;try omega) _|refine Below.alloc ?_ (by simp;try omega) _|refine Below.drew ?_)) hb;clear hb HR)
        | (go_at_call 52;refine (HP.out _).mono ?_;rintro e w2 ⟨rfl,hb⟩;have zd:=kp2 (n:=W.heap.size+1) hb (by first|omega|(simp;try omega)) (zB.out);(try clear zB z0 z1 zf zL zN);obtain ⟨zB,z0,z1,zf,zL,zN⟩:=zd;have Bw2:Hid (Below W.heap.size W w2):=bstep Bw1.out hb;clear hb HP))
      exact bodyPost_ret (v:=nmV (((0,⟨#[]⟩),0),PE)) (by simp [results,Tryz.results222,go_sem,nmV, *]) rfl ⟨rfl,(by repeat (first|refine Below.setCell ?_ (by simp;try omega) _|refine Below.alloc ?_ (by have:=Bw2.out.size;simp;try omega) _|refine Below.drew ?_|exact Bw2.out))⟩
  · rw [if_neg h1]
    clear HH HP
    go_enter Tryz.func222,Tryz.ntmps222
    go_wp2_with (first
      | (go_at_call 31;refine (HR.out _).mono ?_;rintro e w1 ⟨rfl,hb⟩;have rd:=kp4 (n:=W.heap.size) hb (by first|omega|(simp;try omega)) (hkeep (halloc1 _ _));(try clear rB r0 r1 r2 r3 rf rL rN);obtain ⟨rB,r0,r1,r2,r3,rf,rL,rN⟩:=rd;have zd:=kp2 (n:=W.heap.size+1) hb (by first|omega|(simp;try omega)) (halloc2 _ _ (by simp));(try clear zB z0 z1 zf zL zN);obtain ⟨zB,z0,z1,zf,zL,zN⟩:=zd;have Bw1:Hid (Below W.heap.size W w1):=bstep (by repeat (first|exact Below.refl _ _|refine Below.setCell ?_ (by simp;try omega) _|refine Below.alloc ?_ (by simp;try omega) _|refine Below.drew ?_)) hb;clear hb HR))
    exact bodyPost_ret (v:=nmV (((0,⟨#[]⟩),0),1)) (by simp [results,Tryz.results222,go_sem,nmV, *]) rfl ⟨rfl,(by repeat (first|refine Below.setCell ?_ (by simp;try omega) _|refine Below.alloc ?_ (by have:=Bw1.out.size;simp;try omega) _|refine Below.drew ?_|exact Bw1.out))⟩
def abvB (ps:List Plc) (d h:Int):Bool:=match plcI ps d with
  | some q=>hasI q.c.fl 32&&(!(h == d)&&(!ifcI ps h&&extI ps d h))
  | none=>false
theorem class_s {b:Nat} {ps:List Plc} {W:World} (h:WAt b ps W) (hB:∀ q∈ps,PlcB q) (x:Int) (q:Plc) (hq:plcI ps x=some q):Calls Tryz.prog 7 #[.pointer (some ⟨b,0,none⟩),.int .i64 x] W fun e w'=>(∃ a1 n1 c1 a2 n2 c2,e=.returned (.tuple #[.agg #[.string q.c.nm,.string q.c.su,.slice a1 n1 c1,.int .i64 q.c.fl,.int .i64 q.c.ld,.slice a2 n2 c2],.int .i64 0]))∧Below W.heap.size W w':=by
  have:=class_c h hB x
  rw [hq] at this
  refine this.mono fun e w' zz=>⟨?_,zz.2⟩
  obtain ⟨vi,vm,qm,rfl,hown,_⟩:=zz.1
  obtain ⟨a1,c1,rfl⟩:=ownv hown.ifs
  obtain ⟨a2,c2,rfl⟩:=ownv hown.ms
  exact ⟨_,_,_,_,_,_,rfl⟩
set_option maxHeartbeats 2000000 in
theorem abv_c {b:Nat} {ps:List Plc} {W:World} (h:WAt b ps W) (hi:WI ps) (d k:Int):Calls Tryz.prog 223 #[.pointer (some ⟨b,0,none⟩),.int .i64 d,.int .i64 k] W fun e w'=>e=.returned (.bool (abvB ps d k))∧Below W.heap.size W w':=by
  have HI:Hid (∀ w,Below W.heap.size W w→Calls Tryz.prog 8 #[.pointer (some ⟨b,0,none⟩),.int .i64 k] w fun e w'=>e=.returned (.bool (ifcI ps k))∧Below w.heap.size w w'):=fun w hb=>isIface_c (h.below hb) k
  have HE:Hid (∀ w,Below W.heap.size W w→Calls Tryz.prog 9 #[.pointer (some ⟨b,0,none⟩),.int .i64 d,.int .i64 k] w fun e w'=>e=.returned (.bool (extI ps d k))∧Below w.heap.size w w'):=fun w hb=>extends_c (h.below hb) hi d k
  unfold abvB
  cases hq:plcI ps d with
  | none =>
    have HC:Hid (∀ w,Below W.heap.size W w→Calls Tryz.prog 7 #[.pointer (some ⟨b,0,none⟩),.int .i64 d] w fun e w'=>e=.returned (.tuple #[.agg #[.string ⟨#[]⟩,.string ⟨#[]⟩,.slice none 0 0,.int .i64 0,.int .i64 0,.slice none 0 0],.int .i64 3])∧Below w.heap.size w w'):=fun w hb=>by
      have:=class_c (h.below hb) hi.pb d
      rw [hq] at this
      exact this
    clear h hi hq HI HE
    go_enter Tryz.func223,Tryz.ntmps223
    go_wp2_with (first
      | (go_at_call 7;refine (HC.out _ (by repeat (first|exact Below.refl _ _|refine Below.setCell ?_ (by simp;try omega) _|refine Below.alloc ?_ (by simp;try omega) _|refine Below.drew ?_))).mono ?_;rintro e w1 ⟨rfl,hb⟩;have Bw1:Hid (Below W.heap.size W w1):=bstep (by repeat (first|exact Below.refl _ _|refine Below.setCell ?_ (by simp;try omega) _|refine Below.alloc ?_ (by simp;try omega) _|refine Below.drew ?_)) hb;clear hb HC))
    exact bodyPost_ret (results_tmp rfl _ _ _) rfl ⟨rfl,(by repeat (first|refine Below.setCell ?_ (by simp;try omega) _|refine Below.alloc ?_ (by have:=Bw1.out.size;simp;try omega) _|refine Below.drew ?_|exact Bw1.out))⟩
  | some q =>
    have HC:Hid (∀ w,Below W.heap.size W w→Calls Tryz.prog 7 #[.pointer (some ⟨b,0,none⟩),.int .i64 d] w fun e w'=>(∃ a1 n1 c1 a2 n2 c2,e=.returned (.tuple #[.agg #[.string q.c.nm,.string q.c.su,.slice a1 n1 c1,.int .i64 q.c.fl,.int .i64 q.c.ld,.slice a2 n2 c2],.int .i64 0]))∧Below w.heap.size w w'):=fun w hb=>class_s (h.below hb) hi.pb d q hq
    simp only
    generalize ifcI ps k=I at *
    generalize extI ps d k=E at *
    generalize q.c.nm=qn at *
    generalize q.c.su=qs at *
    generalize q.c.ld=ql at *
    generalize q.c.fl=qf at *
    clear h hi hq
    cases hS:hasI qf 32
    case false =>
      rw [hasI] at hS
      clear HI HE
      go_enter Tryz.func223,Tryz.ntmps223
      go_wp2_with (first
        | (go_at_call 7;refine (HC.out _ (by repeat (first|exact Below.refl _ _|refine Below.setCell ?_ (by simp;try omega) _|refine Below.alloc ?_ (by simp;try omega) _|refine Below.drew ?_))).mono ?_;rintro e w1 ⟨⟨a1,n1,c1,a2,n2,c2,rfl⟩,hb⟩;have Bw1:Hid (Below W.heap.size W w1):=bstep (by repeat (first|exact Below.refl _ _|refine Below.setCell ?_ (by simp;try omega) _|refine Below.alloc ?_ (by simp;try omega) _|refine Below.drew ?_)) hb;clear hb HC))
      exact bodyPost_ret (results_tmp rfl _ _ _) rfl ⟨rfl,(by repeat (first|refine Below.setCell ?_ (by simp;try omega) _|refine Below.alloc ?_ (by have:=Bw1.out.size;simp;try omega) _|refine Below.drew ?_|exact Bw1.out))⟩
    case true =>
      rw [hasI] at hS
      by_cases hk:k=d
      · subst hk
        have hkk:(k == k)=true:=by simp
        rw [hkk]
        clear HI HE hkk
        go_enter Tryz.func223,Tryz.ntmps223
        go_wp2_with (first
          | (go_at_call 7;refine (HC.out _ (by repeat (first|exact Below.refl _ _|refine Below.setCell ?_ (by simp;try omega) _|refine Below.alloc ?_ (by simp;try omega) _|refine Below.drew ?_))).mono ?_;rintro e w1 ⟨⟨a1,n1,c1,a2,n2,c2,rfl⟩,hb⟩;have Bw1:Hid (Below W.heap.size W w1):=bstep (by repeat (first|exact Below.refl _ _|refine Below.setCell ?_ (by simp;try omega) _|refine Below.alloc ?_ (by simp;try omega) _|refine Below.drew ?_)) hb;clear hb HC))
        exact bodyPost_ret (results_tmp rfl _ _ _) rfl ⟨rfl,(by repeat (first|refine Below.setCell ?_ (by simp;try omega) _|refine Below.alloc ?_ (by have:=Bw1.out.size;simp;try omega) _|refine Below.drew ?_|exact Bw1.out))⟩
      · have hkk:(k == d)=false:=by simp [hk]
        rw [hkk]
        clear hkk
        cases I
        case true =>
          clear HE
          go_enter Tryz.func223,Tryz.ntmps223
          go_wp2_with (first
            | (go_at_call 7;refine (HC.out _ (by repeat (first|exact Below.refl _ _|refine Below.setCell ?_ (by simp;try omega) _|refine Below.alloc ?_ (by simp;try omega) _|refine Below.drew ?_))).mono ?_;rintro e w1 ⟨⟨a1,n1,c1,a2,n2,c2,rfl⟩,hb⟩;have Bw1:Hid (Below W.heap.size W w1):=bstep (by repeat (first|exact Below.refl _ _|refine Below.setCell ?_ (by simp;try omega) _|refine Below.alloc ?_ (by simp;try omega) _|refine Below.drew ?_)) hb;clear hb HC)
            | (go_at_call 8;refine (HI.out _ (by repeat (first|refine Below.setCell ?_ (by simp;try omega) _|refine Below.alloc ?_ (by have:=Bw1.out.size;simp;try omega) _|refine Below.drew ?_|exact Bw1.out))).mono ?_;rintro e w2 ⟨rfl,hb⟩;have Bw2:Hid (Below W.heap.size W w2):=bstep (by repeat (first|refine Below.setCell ?_ (by simp;try omega) _|refine Below.alloc ?_ (by have:=Bw1.out.size;simp;try omega) _|refine Below.drew ?_|exact Bw1.out)) hb;clear hb HI))
          exact bodyPost_ret (results_tmp rfl _ _ _) rfl ⟨rfl,(by repeat (first|refine Below.setCell ?_ (by simp;try omega) _|refine Below.alloc ?_ (by have:=Bw2.out.size;simp;try omega) _|refine Below.drew ?_|exact Bw2.out))⟩
        case false =>
          go_enter Tryz.func223,Tryz.ntmps223
          go_wp2_with (first
            | (go_at_call 7;refine (HC.out _ (by repeat (first|exact Below.refl _ _|refine Below.setCell ?_ (by simp;try omega) _|refine Below.alloc ?_ (by simp;try omega) _|refine Below.drew ?_))).mono ?_;rintro e w1 ⟨⟨a1,n1,c1,a2,n2,c2,rfl⟩,hb⟩;have Bw1:Hid (Below W.heap.size W w1):=bstep (by repeat (first|exact Below.refl _ _|refine Below.setCell ?_ (by simp;try omega) _|refine Below.alloc ?_ (by simp;try omega) _|refine Below.drew ?_)) hb;clear hb HC)
            | (go_at_call 8;refine (HI.out _ (by repeat (first|refine Below.setCell ?_ (by simp;try omega) _|refine Below.alloc ?_ (by have:=Bw1.out.size;simp;try omega) _|refine Below.drew ?_|exact Bw1.out))).mono ?_;rintro e w2 ⟨rfl,hb⟩;have Bw2:Hid (Below W.heap.size W w2):=bstep (by repeat (first|refine Below.setCell ?_ (by simp;try omega) _|refine Below.alloc ?_ (by have:=Bw1.out.size;simp;try omega) _|refine Below.drew ?_|exact Bw1.out)) hb;clear hb HI)
            | (go_at_call 9;refine (HE.out _ Bw2.out).mono ?_;rintro e w3 ⟨rfl,hb⟩;have Bw3:Hid (Below W.heap.size W w3):=bstep Bw2.out hb;clear hb HE))
          go_ret
          exact ⟨retB (by simp [hk]),(by repeat (first|refine Below.setCell ?_ (by simp;try omega) _|refine Below.alloc ?_ (by have:=Bw3.out.size;simp;try omega) _|refine Below.drew ?_|exact Bw3.out))⟩
def spcB (ps:List Plc) (nm ds:ByteArray) (c:Int):(Int×Int)×Bool:=if ifcI ps c then
    (if (owB ps nm ds c).2 = true ∧ hasS ps (owB ps nm ds c).1.1 (owB ps nm ds c).1.2 8 = false then ((owB ps nm ds c).1, true)
     else if (owB ps nm ds 0).2=true∧hasS ps (owB ps nm ds 0).1.1 (owB ps nm ds 0).1.2 1=true∧hasS ps (owB ps nm ds 0).1.1 (owB ps nm ds 0).1.2 8=false then ((owB ps nm ds 0).1,true) else ((0,0),false))
  else uchI ps nm ds c
set_option maxHeartbeats 8000000 in
theorem spn_c {b:Nat} {ps:List Plc} {W:World} (h:WAt b ps W) (hi:WI ps) (c:Int) (nm ds:ByteArray) (fl lo st:Int) (sa:Option Addr) (sk so:Nat):Calls Tryz.prog 225 #[.pointer (some ⟨b,0,none⟩),.int .i64 c,.agg #[.string nm,.string ds,.int .i64 fl,.int .i64 lo,.int .i64 st,.slice sa sk so]] W fun e w'=>e=.returned (idB (spcB ps nm ds c))∧Below W.heap.size W w':=by
  have HI:Hid (∀ w,Below W.heap.size W w→Calls Tryz.prog 8 #[.pointer (some ⟨b,0,none⟩),.int .i64 c] w fun e w'=>e=.returned (.bool (ifcI ps c))∧Below w.heap.size w w'):=fun w hb=>isIface_c (h.below hb) c
  have HU:Hid (∀ w,Below W.heap.size W w→Calls Tryz.prog 260 #[.pointer (some ⟨b,0,none⟩),.int .i64 c,.agg #[.string nm,.string ds,.int .i64 fl,.int .i64 lo,.int .i64 st,.slice sa sk so]] w fun e w'=>e=.returned (idB (uchI ps nm ds c))∧Below w.heap.size w w'):=fun w hb=>uch_c (h.below hb) hi c nm ds fl lo st sa sk so
  have HO:Hid (∀ w,Below W.heap.size W w→Calls Tryz.prog 261 #[.pointer (some ⟨b,0,none⟩),.int .i64 c,.agg #[.string nm,.string ds,.int .i64 fl,.int .i64 lo,.int .i64 st,.slice sa sk so]] w fun e w'=>e=.returned (idB (owB ps nm ds c))∧Below w.heap.size w w'):=fun w hb=>chO_c (h.below hb) hi.pb c nm ds fl lo st sa sk so
  have HT:Hid (∀ w,Below W.heap.size W w→Calls Tryz.prog 261 #[.pointer (some ⟨b,0,none⟩),.int .i64 0,.agg #[.string nm,.string ds,.int .i64 fl,.int .i64 lo,.int .i64 st,.slice sa sk so]] w fun e w'=>e=.returned (idB (owB ps nm ds 0))∧Below w.heap.size w w'):=fun w hb=>chO_c (h.below hb) hi.pb 0 nm ds fl lo st sa sk so
  have HS:Hid (∀ c i f w,Below W.heap.size W w→Calls Tryz.prog 262 #[.pointer (some ⟨b,0,none⟩),.agg #[.int .i64 c,.int .i64 i],.int .i64 f] w fun e w'=>e=.returned (.bool (hasS ps c i f))∧Below w.heap.size w w'):=fun c i f w hb=>chS_c (h.below hb) hi.pb c i f
  unfold spcB
  generalize ifcI ps c=I at *
  generalize uchI ps nm ds c=U at *
  generalize owB ps nm ds c=O at *
  generalize owB ps nm ds 0=T at *
  obtain ⟨⟨u1,u2⟩,u3⟩:=U
  obtain ⟨⟨o1,o2⟩,o3⟩:=O
  obtain ⟨⟨tt1,tt2⟩,t3⟩:=T
  simp only [idB] at HU HO HT
  simp only
  have HA:Hid _:=HS.out o1 o2 8
  have HB:Hid _:=HS.out tt1 tt2 1
  have HC:Hid _:=HS.out tt1 tt2 8
  generalize hasS ps o1 o2 8=A at *
  generalize hasS ps tt1 tt2 1=B at *
  generalize hasS ps tt1 tt2 8=C at *
  clear h hi HS
  cases I
  case false =>
    clear HO HT HA HB HC
    go_enter Tryz.func225,Tryz.ntmps225
    go_wp2_with (first
      | (go_at_call 8;refine (HI.out _ (by repeat (first|exact Below.refl _ _|refine Below.setCell ?_ (by simp;try omega) _|refine Below.alloc ?_ (by simp;try omega) _|refine Below.drew ?_))).mono ?_;rintro e w1 ⟨rfl,hb⟩;have ad:=kp6 (n:=W.heap.size) hb (by first|omega|(simp;try omega)) (hkeep (halloc1 _ _));(try clear aB a0 a1 a2 a3 a4 a5 af aL aN);obtain ⟨aB,a0,a1,a2,a3,a4,a5,af,aL,aN⟩:=ad;have zd:=kp2 (n:=W.heap.size+1) hb (by first|omega|(simp;try omega)) (halloc2 _ _ (by simp));(try clear zB z0 z1 zf zL zN);obtain ⟨zB,z0,z1,zf,zL,zN⟩:=zd;have Bw1:Hid (Below W.heap.size W w1):=bstep (by repeat (first|exact Below.refl _ _|refine Below.setCell ?_ (by simp;try omega) _|refine Below.alloc ?_ (by simp;try omega) _|refine Below.drew ?_)) hb;clear hb HI)
      | (go_at_call 260;refine (HU.out _ Bw1.out).mono ?_;rintro e w2 ⟨rfl,hb⟩;have zd:=kp2 (n:=W.heap.size+1) hb (by first|omega|(simp;try omega)) (zB.out);(try clear zB z0 z1 zf zL zN);obtain ⟨zB,z0,z1,zf,zL,zN⟩:=zd;have Bw2:Hid (Below W.heap.size W w2):=bstep Bw1.out hb;clear hb HU))
    exact bodyPost_ret (v:=idB ((u1,u2),u3)) (by simp [results,Tryz.results225,go_sem,idB, *]) rfl ⟨rfl,(by repeat (first|refine Below.setCell ?_ (by simp;try omega) _|refine Below.alloc ?_ (by have:=Bw2.out.size;simp;try omega) _|refine Below.drew ?_|exact Bw2.out))⟩
  case true =>
    clear HU
    rw [if_pos rfl]
    cases o3
    case false =>
      clear HA
      rw [if_neg (show ¬ (false=true∧A=false) by simp)]
      cases t3
      case false =>
        clear HB HC
        show Calls Tryz.prog 225 #[.pointer (some ⟨b,0,none⟩),.int .i64 c,.agg #[.string nm,.string ds,.int .i64 fl,.int .i64 lo,.int .i64 st,.slice sa sk so]] W fun e w'=>e=.returned (idB ((0,0),false))∧Below W.heap.size W w'
        go_enter Tryz.func225,Tryz.ntmps225
        go_wp2_with (first
          | (go_at_call 8;refine (HI.out _ (by repeat (first|exact Below.refl _ _|refine Below.setCell ?_ (by simp;try omega) _|refine Below.alloc ?_ (by simp;try omega) _|refine Below.drew ?_))).mono ?_;rintro e w1 ⟨rfl,hb⟩;have ad:=kp6 (n:=W.heap.size) hb (by first|omega|(simp;try omega)) (hkeep (halloc1 _ _));(try clear aB a0 a1 a2 a3 a4 a5 af aL aN);obtain ⟨aB,a0,a1,a2,a3,a4,a5,af,aL,aN⟩:=ad;have zd:=kp2 (n:=W.heap.size+1) hb (by first|omega|(simp;try omega)) (halloc2 _ _ (by simp));(try clear zB z0 z1 zf zL zN);obtain ⟨zB,z0,z1,zf,zL,zN⟩:=zd;have Bw1:Hid (Below W.heap.size W w1):=bstep (by repeat (first|exact Below.refl _ _|refine Below.setCell ?_ (by simp;try omega) _|refine Below.alloc ?_ (by simp;try omega) _|refine Below.drew ?_)) hb;clear hb HI)
          | (go_at_call 261;refine (HO.out _ Bw1.out).mono ?_;rintro e w2 ⟨rfl,hb⟩;have ad:=kp6 (n:=W.heap.size) hb (by first|omega|(simp;try omega)) (aB.out);(try clear aB a0 a1 a2 a3 a4 a5 af aL aN);obtain ⟨aB,a0,a1,a2,a3,a4,a5,af,aL,aN⟩:=ad;have zd:=kp2 (n:=W.heap.size+1) hb (by first|omega|(simp;try omega)) (zB.out);(try clear zB z0 z1 zf zL zN);obtain ⟨zB,z0,z1,zf,zL,zN⟩:=zd;have Bw2:Hid (Below W.heap.size W w2):=bstep Bw1.out hb;clear hb HO)
          | (go_at_call 261;refine (HT.out _ (by repeat (first|refine Below.setCell ?_ (by simp;try omega) _|refine Below.alloc ?_ (by have:=Bw2.out.size;simp;try omega) _|refine Below.drew ?_|exact Bw2.out))).mono ?_;rintro e w3 ⟨rfl,hb⟩;have zd:=kp2 (n:=W.heap.size+1) hb (by first|omega|(simp;try omega)) (hkeep zB.out);(try clear zB z0 z1 zf zL zN);obtain ⟨zB,z0,z1,zf,zL,zN⟩:=zd;have Bw3:Hid (Below W.heap.size W w3):=bstep (by repeat (first|refine Below.setCell ?_ (by simp;try omega) _|refine Below.alloc ?_ (by have:=Bw2.out.size;simp;try omega) _|refine Below.drew ?_|exact Bw2.out)) hb;clear hb HT))
        exact bodyPost_ret (v:=idB ((0,0),false)) (by simp [results,Tryz.results225,go_sem,idB, *]) rfl ⟨rfl,(by repeat (first|refine Below.setCell ?_ (by simp;try omega) _|refine Below.alloc ?_ (by have:=Bw3.out.size;simp;try omega) _|refine Below.drew ?_|exact Bw3.out))⟩
      case true =>
        cases B
        case false =>
          clear HC
          show Calls Tryz.prog 225 #[.pointer (some ⟨b,0,none⟩),.int .i64 c,.agg #[.string nm,.string ds,.int .i64 fl,.int .i64 lo,.int .i64 st,.slice sa sk so]] W fun e w'=>e=.returned (idB ((0,0),false))∧Below W.heap.size W w'
          go_enter Tryz.func225,Tryz.ntmps225
          go_wp2_with (first
            | (go_at_call 8;refine (HI.out _ (by repeat (first|exact Below.refl _ _|refine Below.setCell ?_ (by simp;try omega) _|refine Below.alloc ?_ (by simp;try omega) _|refine Below.drew ?_))).mono ?_;rintro e w1 ⟨rfl,hb⟩;have ad:=kp6 (n:=W.heap.size) hb (by first|omega|(simp;try omega)) (hkeep (halloc1 _ _));(try clear aB a0 a1 a2 a3 a4 a5 af aL aN);obtain ⟨aB,a0,a1,a2,a3,a4,a5,af,aL,aN⟩:=ad;have zd:=kp2 (n:=W.heap.size+1) hb (by first|omega|(simp;try omega)) (halloc2 _ _ (by simp));(try clear zB z0 z1 zf zL zN);obtain ⟨zB,z0,z1,zf,zL,zN⟩:=zd;have Bw1:Hid (Below W.heap.size W w1):=bstep (by repeat (first|exact Below.refl _ _|refine Below.setCell ?_ (by simp;try omega) _|refine Below.alloc ?_ (by simp;try omega) _|refine Below.drew ?_)) hb;clear hb HI)
            | (go_at_call 261;refine (HO.out _ Bw1.out).mono ?_;rintro e w2 ⟨rfl,hb⟩;have ad:=kp6 (n:=W.heap.size) hb (by first|omega|(simp;try omega)) (aB.out);(try clear aB a0 a1 a2 a3 a4 a5 af aL aN);obtain ⟨aB,a0,a1,a2,a3,a4,a5,af,aL,aN⟩:=ad;have zd:=kp2 (n:=W.heap.size+1) hb (by first|omega|(simp;try omega)) (zB.out);(try clear zB z0 z1 zf zL zN);obtain ⟨zB,z0,z1,zf,zL,zN⟩:=zd;have Bw2:Hid (Below W.heap.size W w2):=bstep Bw1.out hb;clear hb HO)
            | (go_at_call 261;refine (HT.out _ (by repeat (first|refine Below.setCell ?_ (by simp;try omega) _|refine Below.alloc ?_ (by have:=Bw2.out.size;simp;try omega) _|refine Below.drew ?_|exact Bw2.out))).mono ?_;rintro e w3 ⟨rfl,hb⟩;have zd:=kp2 (n:=W.heap.size+1) hb (by first|omega|(simp;try omega)) (hkeep zB.out);(try clear zB z0 z1 zf zL zN);obtain ⟨zB,z0,z1,zf,zL,zN⟩:=zd;have Bw3:Hid (Below W.heap.size W w3):=bstep (by repeat (first|refine Below.setCell ?_ (by simp;try omega) _|refine Below.alloc ?_ (by have:=Bw2.out.size;simp;try omega) _|refine Below.drew ?_|exact Bw2.out)) hb;clear hb HT)
            | (go_at_call 262;refine (HB.out _ (by repeat (first|refine Below.setCell ?_ (by simp;try omega) _|refine Below.alloc ?_ (by have:=Bw3.out.size;simp;try omega) _|refine Below.drew ?_|exact Bw3.out))).mono ?_;rintro e w4 ⟨rfl,hb⟩;have zd:=kp2 (n:=W.heap.size+1) hb (by first|omega|(simp;try omega)) (hkeep zB.out);(try clear zB z0 z1 zf zL zN);obtain ⟨zB,z0,z1,zf,zL,zN⟩:=zd;have Bw4:Hid (Below W.heap.size W w4):=bstep (by repeat (first|refine Below.setCell ?_ (by simp;try omega) _|refine Below.alloc ?_ (by have:=Bw3.out.size;simp;try omega) _|refine Below.drew ?_|exact Bw3.out)) hb;clear hb HB))
          exact bodyPost_ret (v:=idB ((0,0),false)) (by simp [results,Tryz.results225,go_sem,idB, *]) rfl ⟨rfl,(by repeat (first|refine Below.setCell ?_ (by simp;try omega) _|refine Below.alloc ?_ (by have:=Bw4.out.size;simp;try omega) _|refine Below.drew ?_|exact Bw4.out))⟩
        case true =>
          cases C
          case true =>
            show Calls Tryz.prog 225 #[.pointer (some ⟨b,0,none⟩),.int .i64 c,.agg #[.string nm,.string ds,.int .i64 fl,.int .i64 lo,.int .i64 st,.slice sa sk so]] W fun e w'=>e=.returned (idB ((0,0),false))∧Below W.heap.size W w'
            go_enter Tryz.func225,Tryz.ntmps225
            go_wp2_with (first
              | (go_at_call 8;refine (HI.out _ (by repeat (first|exact Below.refl _ _|refine Below.setCell ?_ (by simp;try omega) _|refine Below.alloc ?_ (by simp;try omega) _|refine Below.drew ?_))).mono ?_;rintro e w1 ⟨rfl,hb⟩;have ad:=kp6 (n:=W.heap.size) hb (by first|omega|(simp;try omega)) (hkeep (halloc1 _ _));(try clear aB a0 a1 a2 a3 a4 a5 af aL aN);obtain ⟨aB,a0,a1,a2,a3,a4,a5,af,aL,aN⟩:=ad;have zd:=kp2 (n:=W.heap.size+1) hb (by first|omega|(simp;try omega)) (halloc2 _ _ (by simp));(try clear zB z0 z1 zf zL zN);obtain ⟨zB,z0,z1,zf,zL,zN⟩:=zd;have Bw1:Hid (Below W.heap.size W w1):=bstep (by repeat (first|exact Below.refl _ _|refine Below.setCell ?_ (by simp;try omega) _|refine Below.alloc ?_ (by simp;try omega) _|refine Below.drew ?_)) hb;clear hb HI)
              | (go_at_call 261;refine (HO.out _ Bw1.out).mono ?_;rintro e w2 ⟨rfl,hb⟩;have ad:=kp6 (n:=W.heap.size) hb (by first|omega|(simp;try omega)) (aB.out);(try clear aB a0 a1 a2 a3 a4 a5 af aL aN);obtain ⟨aB,a0,a1,a2,a3,a4,a5,af,aL,aN⟩:=ad;have zd:=kp2 (n:=W.heap.size+1) hb (by first|omega|(simp;try omega)) (zB.out);(try clear zB z0 z1 zf zL zN);obtain ⟨zB,z0,z1,zf,zL,zN⟩:=zd;have Bw2:Hid (Below W.heap.size W w2):=bstep Bw1.out hb;clear hb HO)
              | (go_at_call 261;refine (HT.out _ (by repeat (first|refine Below.setCell ?_ (by simp;try omega) _|refine Below.alloc ?_ (by have:=Bw2.out.size;simp;try omega) _|refine Below.drew ?_|exact Bw2.out))).mono ?_;rintro e w3 ⟨rfl,hb⟩;have zd:=kp2 (n:=W.heap.size+1) hb (by first|omega|(simp;try omega)) (hkeep zB.out);(try clear zB z0 z1 zf zL zN);obtain ⟨zB,z0,z1,zf,zL,zN⟩:=zd;have Bw3:Hid (Below W.heap.size W w3):=bstep (by repeat (first|refine Below.setCell ?_ (by simp;try omega) _|refine Below.alloc ?_ (by have:=Bw2.out.size;simp;try omega) _|refine Below.drew ?_|exact Bw2.out)) hb;clear hb HT)
              | (go_at_call 262;refine (HB.out _ (by repeat (first|refine Below.setCell ?_ (by simp;try omega) _|refine Below.alloc ?_ (by have:=Bw3.out.size;simp;try omega) _|refine Below.drew ?_|exact Bw3.out))).mono ?_;rintro e w4 ⟨rfl,hb⟩;have zd:=kp2 (n:=W.heap.size+1) hb (by first|omega|(simp;try omega)) (hkeep zB.out);(try clear zB z0 z1 zf zL zN);obtain ⟨zB,z0,z1,zf,zL,zN⟩:=zd;have td:=kp2 (n:=w3.heap.size) hb (by first|omega|(simp;try omega)) (halloc1 _ _);(try clear tB t0 t1 tf tL tN);obtain ⟨tB,t0,t1,tf,tL,tN⟩:=td;have Bw4:Hid (Below W.heap.size W w4):=bstep (by repeat (first|refine Below.setCell ?_ (by simp;try omega) _|refine Below.alloc ?_ (by have:=Bw3.out.size;simp;try omega) _|refine Below.drew ?_|exact Bw3.out)) hb;clear hb HB)
              | (go_at_call 262;refine (HC.out _ Bw4.out).mono ?_;rintro e w5 ⟨rfl,hb⟩;have zd:=kp2 (n:=W.heap.size+1) hb (by first|omega|(simp;try omega)) (zB.out);(try clear zB z0 z1 zf zL zN);obtain ⟨zB,z0,z1,zf,zL,zN⟩:=zd;have td:=kp2 (n:=w3.heap.size) hb (by first|omega|(simp;try omega)) (tB.out);(try clear tB t0 t1 tf tL tN);obtain ⟨tB,t0,t1,tf,tL,tN⟩:=td;have Bw5:Hid (Below W.heap.size W w5):=bstep Bw4.out hb;clear hb HC))
            exact bodyPost_ret (v:=idB ((0,0),false)) (by simp [results,Tryz.results225,go_sem,idB, *]) rfl ⟨rfl,(by repeat (first|refine Below.setCell ?_ (by simp;try omega) _|refine Below.alloc ?_ (by have:=Bw5.out.size;simp;try omega) _|refine Below.drew ?_|exact Bw5.out))⟩
          case false =>
            show Calls Tryz.prog 225 #[.pointer (some ⟨b,0,none⟩),.int .i64 c,.agg #[.string nm,.string ds,.int .i64 fl,.int .i64 lo,.int .i64 st,.slice sa sk so]] W fun e w'=>e=.returned (idB ((tt1,tt2),true))∧Below W.heap.size W w'
            go_enter Tryz.func225,Tryz.ntmps225
            go_wp2_with (first
              | (go_at_call 8;refine (HI.out _ (by repeat (first|exact Below.refl _ _|refine Below.setCell ?_ (by simp;try omega) _|refine Below.alloc ?_ (by simp;try omega) _|refine Below.drew ?_))).mono ?_;rintro e w1 ⟨rfl,hb⟩;have ad:=kp6 (n:=W.heap.size) hb (by first|omega|(simp;try omega)) (hkeep (halloc1 _ _));(try clear aB a0 a1 a2 a3 a4 a5 af aL aN);obtain ⟨aB,a0,a1,a2,a3,a4,a5,af,aL,aN⟩:=ad;have zd:=kp2 (n:=W.heap.size+1) hb (by first|omega|(simp;try omega)) (halloc2 _ _ (by simp));(try clear zB z0 z1 zf zL zN);obtain ⟨zB,z0,z1,zf,zL,zN⟩:=zd;have Bw1:Hid (Below W.heap.size W w1):=bstep (by repeat (first|exact Below.refl _ _|refine Below.setCell ?_ (by simp;try omega) _|refine Below.alloc ?_ (by simp;try omega) _|refine Below.drew ?_)) hb;clear hb HI)
              | (go_at_call 261;refine (HO.out _ Bw1.out).mono ?_;rintro e w2 ⟨rfl,hb⟩;have ad:=kp6 (n:=W.heap.size) hb (by first|omega|(simp;try omega)) (aB.out);(try clear aB a0 a1 a2 a3 a4 a5 af aL aN);obtain ⟨aB,a0,a1,a2,a3,a4,a5,af,aL,aN⟩:=ad;have zd:=kp2 (n:=W.heap.size+1) hb (by first|omega|(simp;try omega)) (zB.out);(try clear zB z0 z1 zf zL zN);obtain ⟨zB,z0,z1,zf,zL,zN⟩:=zd;have Bw2:Hid (Below W.heap.size W w2):=bstep Bw1.out hb;clear hb HO)
              | (go_at_call 261;refine (HT.out _ (by repeat (first|refine Below.setCell ?_ (by simp;try omega) _|refine Below.alloc ?_ (by have:=Bw2.out.size;simp;try omega) _|refine Below.drew ?_|exact Bw2.out))).mono ?_;rintro e w3 ⟨rfl,hb⟩;have zd:=kp2 (n:=W.heap.size+1) hb (by first|omega|(simp;try omega)) (hkeep zB.out);(try clear zB z0 z1 zf zL zN);obtain ⟨zB,z0,z1,zf,zL,zN⟩:=zd;have Bw3:Hid (Below W.heap.size W w3):=bstep (by repeat (first|refine Below.setCell ?_ (by simp;try omega) _|refine Below.alloc ?_ (by have:=Bw2.out.size;simp;try omega) _|refine Below.drew ?_|exact Bw2.out)) hb;clear hb HT)
              | (go_at_call 262;refine (HB.out _ (by repeat (first|refine Below.setCell ?_ (by simp;try omega) _|refine Below.alloc ?_ (by have:=Bw3.out.size;simp;try omega) _|refine Below.drew ?_|exact Bw3.out))).mono ?_;rintro e w4 ⟨rfl,hb⟩;have zd:=kp2 (n:=W.heap.size+1) hb (by first|omega|(simp;try omega)) (hkeep zB.out);(try clear zB z0 z1 zf zL zN);obtain ⟨zB,z0,z1,zf,zL,zN⟩:=zd;have td:=kp2 (n:=w3.heap.size) hb (by first|omega|(simp;try omega)) (halloc1 _ _);(try clear tB t0 t1 tf tL tN);obtain ⟨tB,t0,t1,tf,tL,tN⟩:=td;have Bw4:Hid (Below W.heap.size W w4):=bstep (by repeat (first|refine Below.setCell ?_ (by simp;try omega) _|refine Below.alloc ?_ (by have:=Bw3.out.size;simp;try omega) _|refine Below.drew ?_|exact Bw3.out)) hb;clear hb HB)
              | (go_at_call 262;refine (HC.out _ Bw4.out).mono ?_;rintro e w5 ⟨rfl,hb⟩;have zd:=kp2 (n:=W.heap.size+1) hb (by first|omega|(simp;try omega)) (zB.out);(try clear zB z0 z1 zf zL zN);obtain ⟨zB,z0,z1,zf,zL,zN⟩:=zd;have td:=kp2 (n:=w3.heap.size) hb (by first|omega|(simp;try omega)) (tB.out);(try clear tB t0 t1 tf tL tN);obtain ⟨tB,t0,t1,tf,tL,tN⟩:=td;have Bw5:Hid (Below W.heap.size W w5):=bstep Bw4.out hb;clear hb HC))
            exact bodyPost_ret (v:=idB ((tt1,tt2),true)) (by simp [results,Tryz.results225,go_sem,idB, *]) rfl ⟨rfl,(by repeat (first|refine Below.setCell ?_ (by simp;try omega) _|refine Below.alloc ?_ (by have:=Bw5.out.size;simp;try omega) _|refine Below.drew ?_|exact Bw5.out))⟩
    case true =>
      cases A
      case false =>
        clear HT HB HC
        rw [if_pos ⟨rfl,rfl⟩]
        go_enter Tryz.func225,Tryz.ntmps225
        go_wp2_with (first
          | (go_at_call 8;refine (HI.out _ (by repeat (first|exact Below.refl _ _|refine Below.setCell ?_ (by simp;try omega) _|refine Below.alloc ?_ (by simp;try omega) _|refine Below.drew ?_))).mono ?_;rintro e w1 ⟨rfl,hb⟩;have ad:=kp6 (n:=W.heap.size) hb (by first|omega|(simp;try omega)) (hkeep (halloc1 _ _));(try clear aB a0 a1 a2 a3 a4 a5 af aL aN);obtain ⟨aB,a0,a1,a2,a3,a4,a5,af,aL,aN⟩:=ad;have zd:=kp2 (n:=W.heap.size+1) hb (by first|omega|(simp;try omega)) (halloc2 _ _ (by simp));(try clear zB z0 z1 zf zL zN);obtain ⟨zB,z0,z1,zf,zL,zN⟩:=zd;have Bw1:Hid (Below W.heap.size W w1):=bstep (by repeat (first|exact Below.refl _ _|refine Below.setCell ?_ (by simp;try omega) _|refine Below.alloc ?_ (by simp;try omega) _|refine Below.drew ?_)) hb;clear hb HI)
          | (go_at_call 261;refine (HO.out _ Bw1.out).mono ?_;rintro e w2 ⟨rfl,hb⟩;have ad:=kp6 (n:=W.heap.size) hb (by first|omega|(simp;try omega)) (aB.out);(try clear aB a0 a1 a2 a3 a4 a5 af aL aN);obtain ⟨aB,a0,a1,a2,a3,a4,a5,af,aL,aN⟩:=ad;have zd:=kp2 (n:=W.heap.size+1) hb (by first|omega|(simp;try omega)) (zB.out);(try clear zB z0 z1 zf zL zN);obtain ⟨zB,z0,z1,zf,zL,zN⟩:=zd;have Bw2:Hid (Below W.heap.size W w2):=bstep Bw1.out hb;clear hb HO)
          | (go_at_call 262;refine (HA.out _ (by repeat (first|refine Below.setCell ?_ (by simp;try omega) _|refine Below.alloc ?_ (by have:=Bw2.out.size;simp;try omega) _|refine Below.drew ?_|exact Bw2.out))).mono ?_;rintro e w3 ⟨rfl,hb⟩;have ad:=kp6 (n:=W.heap.size) hb (by first|omega|(simp;try omega)) (hkeep aB.out);(try clear aB a0 a1 a2 a3 a4 a5 af aL aN);obtain ⟨aB,a0,a1,a2,a3,a4,a5,af,aL,aN⟩:=ad;have zd:=kp2 (n:=W.heap.size+1) hb (by first|omega|(simp;try omega)) (hkeep zB.out);(try clear zB z0 z1 zf zL zN);obtain ⟨zB,z0,z1,zf,zL,zN⟩:=zd;have vd:=kp2 (n:=w2.heap.size) hb (by first|omega|(simp;try omega)) (halloc1 _ _);(try clear vB v0 v1 vf vL vN);obtain ⟨vB,v0,v1,vf,vL,vN⟩:=vd;have Bw3:Hid (Below W.heap.size W w3):=bstep (by repeat (first|refine Below.setCell ?_ (by simp;try omega) _|refine Below.alloc ?_ (by have:=Bw2.out.size;simp;try omega) _|refine Below.drew ?_|exact Bw2.out)) hb;clear hb HA))
        exact bodyPost_ret (v:=idB ((o1,o2),true)) (by simp [results,Tryz.results225,go_sem,idB, *]) rfl ⟨rfl,(by repeat (first|refine Below.setCell ?_ (by simp;try omega) _|refine Below.alloc ?_ (by have:=Bw3.out.size;simp;try omega) _|refine Below.drew ?_|exact Bw3.out))⟩
      case true =>
        rw [if_neg (show ¬ (true=true∧true=false) by simp)]
        cases t3
        case false =>
          clear HB HC
          show Calls Tryz.prog 225 #[.pointer (some ⟨b,0,none⟩),.int .i64 c,.agg #[.string nm,.string ds,.int .i64 fl,.int .i64 lo,.int .i64 st,.slice sa sk so]] W fun e w'=>e=.returned (idB ((0,0),false))∧Below W.heap.size W w'
          go_enter Tryz.func225,Tryz.ntmps225
          go_wp2_with (first
            | (go_at_call 8;refine (HI.out _ (by repeat (first|exact Below.refl _ _|refine Below.setCell ?_ (by simp;try omega) _|refine Below.alloc ?_ (by simp;try omega) _|refine Below.drew ?_))).mono ?_;rintro e w1 ⟨rfl,hb⟩;have ad:=kp6 (n:=W.heap.size) hb (by first|omega|(simp;try omega)) (hkeep (halloc1 _ _));(try clear aB a0 a1 a2 a3 a4 a5 af aL aN);obtain ⟨aB,a0,a1,a2,a3,a4,a5,af,aL,aN⟩:=ad;have zd:=kp2 (n:=W.heap.size+1) hb (by first|omega|(simp;try omega)) (halloc2 _ _ (by simp));(try clear zB z0 z1 zf zL zN);obtain ⟨zB,z0,z1,zf,zL,zN⟩:=zd;have Bw1:Hid (Below W.heap.size W w1):=bstep (by repeat (first|exact Below.refl _ _|refine Below.setCell ?_ (by simp;try omega) _|refine Below.alloc ?_ (by simp;try omega) _|refine Below.drew ?_)) hb;clear hb HI)
            | (go_at_call 261;refine (HO.out _ Bw1.out).mono ?_;rintro e w2 ⟨rfl,hb⟩;have ad:=kp6 (n:=W.heap.size) hb (by first|omega|(simp;try omega)) (aB.out);(try clear aB a0 a1 a2 a3 a4 a5 af aL aN);obtain ⟨aB,a0,a1,a2,a3,a4,a5,af,aL,aN⟩:=ad;have zd:=kp2 (n:=W.heap.size+1) hb (by first|omega|(simp;try omega)) (zB.out);(try clear zB z0 z1 zf zL zN);obtain ⟨zB,z0,z1,zf,zL,zN⟩:=zd;have Bw2:Hid (Below W.heap.size W w2):=bstep Bw1.out hb;clear hb HO)
            | (go_at_call 262;refine (HA.out _ (by repeat (first|refine Below.setCell ?_ (by simp;try omega) _|refine Below.alloc ?_ (by have:=Bw2.out.size;simp;try omega) _|refine Below.drew ?_|exact Bw2.out))).mono ?_;rintro e w3 ⟨rfl,hb⟩;have ad:=kp6 (n:=W.heap.size) hb (by first|omega|(simp;try omega)) (hkeep aB.out);(try clear aB a0 a1 a2 a3 a4 a5 af aL aN);obtain ⟨aB,a0,a1,a2,a3,a4,a5,af,aL,aN⟩:=ad;have zd:=kp2 (n:=W.heap.size+1) hb (by first|omega|(simp;try omega)) (hkeep zB.out);(try clear zB z0 z1 zf zL zN);obtain ⟨zB,z0,z1,zf,zL,zN⟩:=zd;have vd:=kp2 (n:=w2.heap.size) hb (by first|omega|(simp;try omega)) (halloc1 _ _);(try clear vB v0 v1 vf vL vN);obtain ⟨vB,v0,v1,vf,vL,vN⟩:=vd;have Bw3:Hid (Below W.heap.size W w3):=bstep (by repeat (first|refine Below.setCell ?_ (by simp;try omega) _|refine Below.alloc ?_ (by have:=Bw2.out.size;simp;try omega) _|refine Below.drew ?_|exact Bw2.out)) hb;clear hb HA)
            | (go_at_call 261;refine (HT.out _ Bw3.out).mono ?_;rintro e w4 ⟨rfl,hb⟩;have zd:=kp2 (n:=W.heap.size+1) hb (by first|omega|(simp;try omega)) (zB.out);(try clear zB z0 z1 zf zL zN);obtain ⟨zB,z0,z1,zf,zL,zN⟩:=zd;have Bw4:Hid (Below W.heap.size W w4):=bstep Bw3.out hb;clear hb HT))
          exact bodyPost_ret (v:=idB ((0,0),false)) (by simp [results,Tryz.results225,go_sem,idB, *]) rfl ⟨rfl,(by repeat (first|refine Below.setCell ?_ (by simp;try omega) _|refine Below.alloc ?_ (by have:=Bw4.out.size;simp;try omega) _|refine Below.drew ?_|exact Bw4.out))⟩
        case true =>
          cases B
          case false =>
            clear HC
            show Calls Tryz.prog 225 #[.pointer (some ⟨b,0,none⟩),.int .i64 c,.agg #[.string nm,.string ds,.int .i64 fl,.int .i64 lo,.int .i64 st,.slice sa sk so]] W fun e w'=>e=.returned (idB ((0,0),false))∧Below W.heap.size W w'
            go_enter Tryz.func225,Tryz.ntmps225
            go_wp2_with (first
              | (go_at_call 8;refine (HI.out _ (by repeat (first|exact Below.refl _ _|refine Below.setCell ?_ (by simp;try omega) _|refine Below.alloc ?_ (by simp;try omega) _|refine Below.drew ?_))).mono ?_;rintro e w1 ⟨rfl,hb⟩;have ad:=kp6 (n:=W.heap.size) hb (by first|omega|(simp;try omega)) (hkeep (halloc1 _ _));(try clear aB a0 a1 a2 a3 a4 a5 af aL aN);obtain ⟨aB,a0,a1,a2,a3,a4,a5,af,aL,aN⟩:=ad;have zd:=kp2 (n:=W.heap.size+1) hb (by first|omega|(simp;try omega)) (halloc2 _ _ (by simp));(try clear zB z0 z1 zf zL zN);obtain ⟨zB,z0,z1,zf,zL,zN⟩:=zd;have Bw1:Hid (Below W.heap.size W w1):=bstep (by repeat (first|exact Below.refl _ _|refine Below.setCell ?_ (by simp;try omega) _|refine Below.alloc ?_ (by simp;try omega) _|refine Below.drew ?_)) hb;clear hb HI)
              | (go_at_call 261;refine (HO.out _ Bw1.out).mono ?_;rintro e w2 ⟨rfl,hb⟩;have ad:=kp6 (n:=W.heap.size) hb (by first|omega|(simp;try omega)) (aB.out);(try clear aB a0 a1 a2 a3 a4 a5 af aL aN);obtain ⟨aB,a0,a1,a2,a3,a4,a5,af,aL,aN⟩:=ad;have zd:=kp2 (n:=W.heap.size+1) hb (by first|omega|(simp;try omega)) (zB.out);(try clear zB z0 z1 zf zL zN);obtain ⟨zB,z0,z1,zf,zL,zN⟩:=zd;have Bw2:Hid (Below W.heap.size W w2):=bstep Bw1.out hb;clear hb HO)
              | (go_at_call 262;refine (HA.out _ (by repeat (first|refine Below.setCell ?_ (by simp;try omega) _|refine Below.alloc ?_ (by have:=Bw2.out.size;simp;try omega) _|refine Below.drew ?_|exact Bw2.out))).mono ?_;rintro e w3 ⟨rfl,hb⟩;have ad:=kp6 (n:=W.heap.size) hb (by first|omega|(simp;try omega)) (hkeep aB.out);(try clear aB a0 a1 a2 a3 a4 a5 af aL aN);obtain ⟨aB,a0,a1,a2,a3,a4,a5,af,aL,aN⟩:=ad;have zd:=kp2 (n:=W.heap.size+1) hb (by first|omega|(simp;try omega)) (hkeep zB.out);(try clear zB z0 z1 zf zL zN);obtain ⟨zB,z0,z1,zf,zL,zN⟩:=zd;have vd:=kp2 (n:=w2.heap.size) hb (by first|omega|(simp;try omega)) (halloc1 _ _);(try clear vB v0 v1 vf vL vN);obtain ⟨vB,v0,v1,vf,vL,vN⟩:=vd;have Bw3:Hid (Below W.heap.size W w3):=bstep (by repeat (first|refine Below.setCell ?_ (by simp;try omega) _|refine Below.alloc ?_ (by have:=Bw2.out.size;simp;try omega) _|refine Below.drew ?_|exact Bw2.out)) hb;clear hb HA)
              | (go_at_call 261;refine (HT.out _ Bw3.out).mono ?_;rintro e w4 ⟨rfl,hb⟩;have zd:=kp2 (n:=W.heap.size+1) hb (by first|omega|(simp;try omega)) (zB.out);(try clear zB z0 z1 zf zL zN);obtain ⟨zB,z0,z1,zf,zL,zN⟩:=zd;have Bw4:Hid (Below W.heap.size W w4):=bstep Bw3.out hb;clear hb HT)
              | (go_at_call 262;refine (HB.out _ (by repeat (first|refine Below.setCell ?_ (by simp;try omega) _|refine Below.alloc ?_ (by have:=Bw4.out.size;simp;try omega) _|refine Below.drew ?_|exact Bw4.out))).mono ?_;rintro e w5 ⟨rfl,hb⟩;have zd:=kp2 (n:=W.heap.size+1) hb (by first|omega|(simp;try omega)) (hkeep zB.out);(try clear zB z0 z1 zf zL zN);obtain ⟨zB,z0,z1,zf,zL,zN⟩:=zd;have Bw5:Hid (Below W.heap.size W w5):=bstep (by repeat (first|refine Below.setCell ?_ (by simp;try omega) _|refine Below.alloc ?_ (by have:=Bw4.out.size;simp;try omega) _|refine Below.drew ?_|exact Bw4.out)) hb;clear hb HB))
            exact bodyPost_ret (v:=idB ((0,0),false)) (by simp [results,Tryz.results225,go_sem,idB, *]) rfl ⟨rfl,(by repeat (first|refine Below.setCell ?_ (by simp;try omega) _|refine Below.alloc ?_ (by have:=Bw5.out.size;simp;try omega) _|refine Below.drew ?_|exact Bw5.out))⟩
          case true =>
            cases C
            case true =>
              show Calls Tryz.prog 225 #[.pointer (some ⟨b,0,none⟩),.int .i64 c,.agg #[.string nm,.string ds,.int .i64 fl,.int .i64 lo,.int .i64 st,.slice sa sk so]] W fun e w'=>e=.returned (idB ((0,0),false))∧Below W.heap.size W w'
              go_enter Tryz.func225,Tryz.ntmps225
              go_wp2_with (first
                | (go_at_call 8;refine (HI.out _ (by repeat (first|exact Below.refl _ _|refine Below.setCell ?_ (by simp;try omega) _|refine Below.alloc ?_ (by simp;try omega) _|refine Below.drew ?_))).mono ?_;rintro e w1 ⟨rfl,hb⟩;have ad:=kp6 (n:=W.heap.size) hb (by first|omega|(simp;try omega)) (hkeep (halloc1 _ _));(try clear aB a0 a1 a2 a3 a4 a5 af aL aN);obtain ⟨aB,a0,a1,a2,a3,a4,a5,af,aL,aN⟩:=ad;have zd:=kp2 (n:=W.heap.size+1) hb (by first|omega|(simp;try omega)) (halloc2 _ _ (by simp));(try clear zB z0 z1 zf zL zN);obtain ⟨zB,z0,z1,zf,zL,zN⟩:=zd;have Bw1:Hid (Below W.heap.size W w1):=bstep (by repeat (first|exact Below.refl _ _|refine Below.setCell ?_ (by simp;try omega) _|refine Below.alloc ?_ (by simp;try omega) _|refine Below.drew ?_)) hb;clear hb HI)
                | (go_at_call 261;refine (HO.out _ Bw1.out).mono ?_;rintro e w2 ⟨rfl,hb⟩;have ad:=kp6 (n:=W.heap.size) hb (by first|omega|(simp;try omega)) (aB.out);(try clear aB a0 a1 a2 a3 a4 a5 af aL aN);obtain ⟨aB,a0,a1,a2,a3,a4,a5,af,aL,aN⟩:=ad;have zd:=kp2 (n:=W.heap.size+1) hb (by first|omega|(simp;try omega)) (zB.out);(try clear zB z0 z1 zf zL zN);obtain ⟨zB,z0,z1,zf,zL,zN⟩:=zd;have Bw2:Hid (Below W.heap.size W w2):=bstep Bw1.out hb;clear hb HO)
                | (go_at_call 262;refine (HA.out _ (by repeat (first|refine Below.setCell ?_ (by simp;try omega) _|refine Below.alloc ?_ (by have:=Bw2.out.size;simp;try omega) _|refine Below.drew ?_|exact Bw2.out))).mono ?_;rintro e w3 ⟨rfl,hb⟩;have ad:=kp6 (n:=W.heap.size) hb (by first|omega|(simp;try omega)) (hkeep aB.out);(try clear aB a0 a1 a2 a3 a4 a5 af aL aN);obtain ⟨aB,a0,a1,a2,a3,a4,a5,af,aL,aN⟩:=ad;have zd:=kp2 (n:=W.heap.size+1) hb (by first|omega|(simp;try omega)) (hkeep zB.out);(try clear zB z0 z1 zf zL zN);obtain ⟨zB,z0,z1,zf,zL,zN⟩:=zd;have vd:=kp2 (n:=w2.heap.size) hb (by first|omega|(simp;try omega)) (halloc1 _ _);(try clear vB v0 v1 vf vL vN);obtain ⟨vB,v0,v1,vf,vL,vN⟩:=vd;have Bw3:Hid (Below W.heap.size W w3):=bstep (by repeat (first|refine Below.setCell ?_ (by simp;try omega) _|refine Below.alloc ?_ (by have:=Bw2.out.size;simp;try omega) _|refine Below.drew ?_|exact Bw2.out)) hb;clear hb HA)
                | (go_at_call 261;refine (HT.out _ Bw3.out).mono ?_;rintro e w4 ⟨rfl,hb⟩;have zd:=kp2 (n:=W.heap.size+1) hb (by first|omega|(simp;try omega)) (zB.out);(try clear zB z0 z1 zf zL zN);obtain ⟨zB,z0,z1,zf,zL,zN⟩:=zd;have Bw4:Hid (Below W.heap.size W w4):=bstep Bw3.out hb;clear hb HT)
                | (go_at_call 262;refine (HB.out _ (by repeat (first|refine Below.setCell ?_ (by simp;try omega) _|refine Below.alloc ?_ (by have:=Bw4.out.size;simp;try omega) _|refine Below.drew ?_|exact Bw4.out))).mono ?_;rintro e w5 ⟨rfl,hb⟩;have zd:=kp2 (n:=W.heap.size+1) hb (by first|omega|(simp;try omega)) (hkeep zB.out);(try clear zB z0 z1 zf zL zN);obtain ⟨zB,z0,z1,zf,zL,zN⟩:=zd;have td:=kp2 (n:=w4.heap.size) hb (by first|omega|(simp;try omega)) (halloc1 _ _);(try clear tB t0 t1 tf tL tN);obtain ⟨tB,t0,t1,tf,tL,tN⟩:=td;have Bw5:Hid (Below W.heap.size W w5):=bstep (by repeat (first|refine Below.setCell ?_ (by simp;try omega) _|refine Below.alloc ?_ (by have:=Bw4.out.size;simp;try omega) _|refine Below.drew ?_|exact Bw4.out)) hb;clear hb HB)
                | (go_at_call 262;refine (HC.out _ Bw5.out).mono ?_;rintro e w6 ⟨rfl,hb⟩;have zd:=kp2 (n:=W.heap.size+1) hb (by first|omega|(simp;try omega)) (zB.out);(try clear zB z0 z1 zf zL zN);obtain ⟨zB,z0,z1,zf,zL,zN⟩:=zd;have td:=kp2 (n:=w4.heap.size) hb (by first|omega|(simp;try omega)) (tB.out);(try clear tB t0 t1 tf tL tN);obtain ⟨tB,t0,t1,tf,tL,tN⟩:=td;have Bw6:Hid (Below W.heap.size W w6):=bstep Bw5.out hb;clear hb HC))
              exact bodyPost_ret (v:=idB ((0,0),false)) (by simp [results,Tryz.results225,go_sem,idB, *]) rfl ⟨rfl,(by repeat (first|refine Below.setCell ?_ (by simp;try omega) _|refine Below.alloc ?_ (by have:=Bw6.out.size;simp;try omega) _|refine Below.drew ?_|exact Bw6.out))⟩
            case false =>
              show Calls Tryz.prog 225 #[.pointer (some ⟨b,0,none⟩),.int .i64 c,.agg #[.string nm,.string ds,.int .i64 fl,.int .i64 lo,.int .i64 st,.slice sa sk so]] W fun e w'=>e=.returned (idB ((tt1,tt2),true))∧Below W.heap.size W w'
              go_enter Tryz.func225,Tryz.ntmps225
              go_wp2_with (first
                | (go_at_call 8;refine (HI.out _ (by repeat (first|exact Below.refl _ _|refine Below.setCell ?_ (by simp;try omega) _|refine Below.alloc ?_ (by simp;try omega) _|refine Below.drew ?_))).mono ?_;rintro e w1 ⟨rfl,hb⟩;have ad:=kp6 (n:=W.heap.size) hb (by first|omega|(simp;try omega)) (hkeep (halloc1 _ _));(try clear aB a0 a1 a2 a3 a4 a5 af aL aN);obtain ⟨aB,a0,a1,a2,a3,a4,a5,af,aL,aN⟩:=ad;have zd:=kp2 (n:=W.heap.size+1) hb (by first|omega|(simp;try omega)) (halloc2 _ _ (by simp));(try clear zB z0 z1 zf zL zN);obtain ⟨zB,z0,z1,zf,zL,zN⟩:=zd;have Bw1:Hid (Below W.heap.size W w1):=bstep (by repeat (first|exact Below.refl _ _|refine Below.setCell ?_ (by simp;try omega) _|refine Below.alloc ?_ (by simp;try omega) _|refine Below.drew ?_)) hb;clear hb HI)
                | (go_at_call 261;refine (HO.out _ Bw1.out).mono ?_;rintro e w2 ⟨rfl,hb⟩;have ad:=kp6 (n:=W.heap.size) hb (by first|omega|(simp;try omega)) (aB.out);(try clear aB a0 a1 a2 a3 a4 a5 af aL aN);obtain ⟨aB,a0,a1,a2,a3,a4,a5,af,aL,aN⟩:=ad;have zd:=kp2 (n:=W.heap.size+1) hb (by first|omega|(simp;try omega)) (zB.out);(try clear zB z0 z1 zf zL zN);obtain ⟨zB,z0,z1,zf,zL,zN⟩:=zd;have Bw2:Hid (Below W.heap.size W w2):=bstep Bw1.out hb;clear hb HO)
                | (go_at_call 262;refine (HA.out _ (by repeat (first|refine Below.setCell ?_ (by simp;try omega) _|refine Below.alloc ?_ (by have:=Bw2.out.size;simp;try omega) _|refine Below.drew ?_|exact Bw2.out))).mono ?_;rintro e w3 ⟨rfl,hb⟩;have ad:=kp6 (n:=W.heap.size) hb (by first|omega|(simp;try omega)) (hkeep aB.out);(try clear aB a0 a1 a2 a3 a4 a5 af aL aN);obtain ⟨aB,a0,a1,a2,a3,a4,a5,af,aL,aN⟩:=ad;have zd:=kp2 (n:=W.heap.size+1) hb (by first|omega|(simp;try omega)) (hkeep zB.out);(try clear zB z0 z1 zf zL zN);obtain ⟨zB,z0,z1,zf,zL,zN⟩:=zd;have vd:=kp2 (n:=w2.heap.size) hb (by first|omega|(simp;try omega)) (halloc1 _ _);(try clear vB v0 v1 vf vL vN);obtain ⟨vB,v0,v1,vf,vL,vN⟩:=vd;have Bw3:Hid (Below W.heap.size W w3):=bstep (by repeat (first|refine Below.setCell ?_ (by simp;try omega) _|refine Below.alloc ?_ (by have:=Bw2.out.size;simp;try omega) _|refine Below.drew ?_|exact Bw2.out)) hb;clear hb HA)
                | (go_at_call 261;refine (HT.out _ Bw3.out).mono ?_;rintro e w4 ⟨rfl,hb⟩;have zd:=kp2 (n:=W.heap.size+1) hb (by first|omega|(simp;try omega)) (zB.out);(try clear zB z0 z1 zf zL zN);obtain ⟨zB,z0,z1,zf,zL,zN⟩:=zd;have Bw4:Hid (Below W.heap.size W w4):=bstep Bw3.out hb;clear hb HT)
                | (go_at_call 262;refine (HB.out _ (by repeat (first|refine Below.setCell ?_ (by simp;try omega) _|refine Below.alloc ?_ (by have:=Bw4.out.size;simp;try omega) _|refine Below.drew ?_|exact Bw4.out))).mono ?_;rintro e w5 ⟨rfl,hb⟩;have zd:=kp2 (n:=W.heap.size+1) hb (by first|omega|(simp;try omega)) (hkeep zB.out);(try clear zB z0 z1 zf zL zN);obtain ⟨zB,z0,z1,zf,zL,zN⟩:=zd;have td:=kp2 (n:=w4.heap.size) hb (by first|omega|(simp;try omega)) (halloc1 _ _);(try clear tB t0 t1 tf tL tN);obtain ⟨tB,t0,t1,tf,tL,tN⟩:=td;have Bw5:Hid (Below W.heap.size W w5):=bstep (by repeat (first|refine Below.setCell ?_ (by simp;try omega) _|refine Below.alloc ?_ (by have:=Bw4.out.size;simp;try omega) _|refine Below.drew ?_|exact Bw4.out)) hb;clear hb HB)
                | (go_at_call 262;refine (HC.out _ Bw5.out).mono ?_;rintro e w6 ⟨rfl,hb⟩;have zd:=kp2 (n:=W.heap.size+1) hb (by first|omega|(simp;try omega)) (zB.out);(try clear zB z0 z1 zf zL zN);obtain ⟨zB,z0,z1,zf,zL,zN⟩:=zd;have td:=kp2 (n:=w4.heap.size) hb (by first|omega|(simp;try omega)) (tB.out);(try clear tB t0 t1 tf tL tN);obtain ⟨tB,t0,t1,tf,tL,tN⟩:=td;have Bw6:Hid (Below W.heap.size W w6):=bstep Bw5.out hb;clear hb HC))
              exact bodyPost_ret (v:=idB ((tt1,tt2),true)) (by simp [results,Tryz.results225,go_sem,idB, *]) rfl ⟨rfl,(by repeat (first|refine Below.setCell ?_ (by simp;try omega) _|refine Below.alloc ?_ (by have:=Bw6.out.size;simp;try omega) _|refine Below.drew ?_|exact Bw6.out))⟩
end Go.Proofs.YtenpnkkkjjdccaaGreat
