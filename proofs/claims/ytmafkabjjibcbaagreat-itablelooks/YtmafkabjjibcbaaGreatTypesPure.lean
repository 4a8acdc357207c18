import Derived.Lib.IndexBytes
import Derived.Lib.PathFns
namespace Go.Proofs.YtmafkabjjibcbaaGreat
def digI (c:Int):Bool:=decide (48≤c)&&decide (c≤57)
def ltrI (c:Int):Bool:=decide (97≤c)&&decide (c≤122)||(decide (65≤c)&&decide (c≤90))||c == 95||c == 36
def Zad (c:UInt8):Bool:=ltrI c.toNat||digI c.toNat
def Y8 (l:List UInt8):Bool:=match l with
 | []=>false
 | c::r=>!digI c.toNat&&(c::r).all Zad
def Zs:List UInt8→List (List UInt8)
 | []=>[[]]
 | c::l=>if c=47 then []::Zs l else match Zs l with
   | []=>[[c]]
   | p::ps=>(c::p)::ps
def Zp (l:List UInt8):Bool:=decide (l.length≤60)&&(Zs l).all Y8
def initL:List UInt8:=[60,105,110,105,116,62]
def Yc (l:List UInt8):Bool:=l == initL||(decide (l.length≤60)&&Y8 l)
def Q9 (l:List UInt8):Int:=Lib.Pa.lastIndexByte l 47
def pkgL (l:List UInt8):List UInt8:=l.take (Q9 l).toNat
theorem Js (l:List UInt8):Zs l≠[]:=by
 cases l with
 | nil=>simp [Zs]
 | cons c l =>
   unfold Zs
   split
   ·simp
   ·split <;> simp
theorem Zby (l:List UInt8) (h:(47:UInt8) ∉ l):Zs l=[l]:=by
 induction l with
 | nil=>rfl
 | cons c l ih =>
   have hc:c≠47:=fun e=>h (by simp [e])
   have:=ih (fun m=>h (List.mem_cons_of_mem _ m))
   simp [Zs,hc,this]
theorem Zc1 (a b:List UInt8) (h:(47:UInt8) ∉ a):Zs (a++47::b)=a::Zs b:=by
 induction a with
 | nil=>simp [Zs]
 | cons c l ih =>
   have hc:c≠47:=fun e=>h (by simp [e])
   have:=ih (fun m=>h (List.mem_cons_of_mem _ m))
   simp [Zs,hc,this]
theorem Y9 (l:List UInt8):(Zs l).length≤l.length+1:=by
 induction l with
 | nil=>simp [Zs]
 | cons c l ih =>
   have hn:=Js l
   unfold Zs
   split
   ·simp;omega
   ·split
    ·contradiction
    ·rename_i p ps e
     rw [e] at ih
     simp at ih ⊢
     omega
theorem Zco (l:List UInt8) (h:Lib.indexByte l 47=-1):(47:UInt8) ∉ l:=by
 induction l with
 | nil=>simp
 | cons b l ih =>
   unfold Lib.indexByte at h
   split at h
   ·simp at h
   ·rename_i hb
    have hb':b≠47:=by simpa using hb
    split at h
    ·rename_i h1
     have:=ih (by simpa using h1)
     simp [hb'.symm,this]
    ·rename_i h1
     have:=Lib.indexByte_ge l 47
     have h1':Lib.indexByte l 47≠-1:=by simpa using h1
     omega
theorem Zee (l:List UInt8) (h:Lib.indexByte l 47≠-1):∃ a b,l=a++47::b∧(47:UInt8) ∉ a∧Lib.indexByte l 47=(a.length:Int):=by
 induction l with
 | nil=>simp [Lib.indexByte] at h
 | cons b l ih =>
   unfold Lib.indexByte at h ⊢
   by_cases hb:(b == 47)=true
   ·have hb':b=47:=by simpa using hb
    exact ⟨[],l,by simp [hb'],by simp,by simp [hb]⟩
   ·have hb':(b == 47)=false:=by simpa using hb
    have hb'':b≠47:=by simpa using hb
    simp only [hb',Bool.false_eq_true,if_false] at h ⊢
    by_cases h1:(Lib.indexByte l 47 == -1)=true
    ·simp [h1] at h
    ·have h1':Lib.indexByte l 47≠-1:=by simpa using h1
     obtain ⟨x,y,e,hx,hi⟩:=ih h1'
     refine ⟨b::x,y,by simp [e],by simp [hb''.symm,hx],?_⟩
     simp only [h1,if_false,Bool.false_eq_true]
     rw [hi];simp
theorem Zfu (l:List UInt8):-1≤Q9 l∧Q9 l<l.length:=Lib.Pa.lastIndexByte_bounds l 47
theorem valid_ne {l:List UInt8} (h:Zp l=true):1≤l.length:=by
 cases l with
 | nil=>revert h;decide
 | cons c r=>simp
def Zw:List UInt8→Nat×List UInt8
 | []=>(0,[])
 | c::l=>if c=91 then ((Zw l).1+1,(Zw l).2) else (0,c::l)
def semi:List UInt8→Option (List UInt8×List UInt8)
 | []=>none
 | c::l=>if c=59 then some ([],l) else match semi l with
   | none=>none
   | some (a,b)=>some (c::a,b)
def Z6 (l:List UInt8):Option ((Nat×List UInt8)×List UInt8) :=
 match (Zw l).2 with
 | []=>none
 | c::r=>if c=73 then some (((Zw l).1,[]),r)
   else if c=76 then match semi r with
    | none=>none
    | some (a,b)=>if Zp a then some (((Zw l).1,a),b) else none
   else none
def Jk (t:Nat×List UInt8):List UInt8:=List.replicate t.1 91++(if t.2=[] then [73] else 76::(t.2++[59]))
def Zh3 (t:Nat×List UInt8):Bool:=t.2 == []||Zp t.2
theorem Zmn (l:List UInt8):l=List.replicate (Zw l).1 91++(Zw l).2:=by
 induction l with
 | nil=>rfl
 | cons c l ih =>
   unfold Zw
   by_cases h:c=91
   ·simp only [h,if_true,List.replicate_succ,List.cons_append]
    rw [← ih]
   ·simp [h]
theorem Zho (a b:List UInt8) (h:(59:UInt8) ∉ a):semi (a++59::b)=some (a,b):=by
 induction a with
 | nil=>simp [semi]
 | cons c l ih =>
   have hc:c≠59:=fun e=>h (by simp [e])
   have:=ih (fun m=>h (List.mem_cons_of_mem _ m))
   simp [semi,hc,this]
theorem Zdr {l a b:List UInt8} (h:semi l=some (a,b)):l=a++59::b∧(59:UInt8) ∉ a:=by
 induction l generalizing a b with
 | nil=>simp [semi] at h
 | cons c l ih =>
   unfold semi at h
   by_cases hc:c=59
   ·simp [hc] at h
    obtain ⟨rfl,rfl⟩:=h
    simp [hc]
   ·simp only [hc,if_false] at h
    cases e:semi l with
    | none=>rw [e] at h;simp at h
    | some p =>
      obtain ⟨x,y⟩:=p
      rw [e] at h
      simp at h
      obtain ⟨rfl,rfl⟩:=h
      obtain ⟨q1,q2⟩:=ih e
      exact ⟨by rw [q1];rfl,by simp [q2];exact fun z=>hc z.symm⟩
theorem Zj2:Zp []=false:=by decide
theorem Zac {l:List UInt8} {t:Nat×List UInt8} {r:List UInt8} (h:Z6 l=some (t,r)):l=Jk t++r∧Zh3 t=true:=by
 have hb:=Zmn l
 unfold Z6 at h
 cases e:(Zw l).2 with
 | nil=>rw [e] at h;simp at h
 | cons c s =>
   rw [e] at h hb
   simp only at h
   by_cases h1:c=73
   ·simp [h1] at h
    obtain ⟨rfl,rfl⟩:=h
    refine ⟨?_,by simp [Zh3]⟩
    conv=>lhs;rw [hb]
    simp [Jk,h1]
   ·by_cases h2:c=76
    ·subst h2
     simp only [h1,if_false,if_true] at h
     cases e2:semi s with
     | none=>rw [e2] at h;simp at h
     | some p =>
       obtain ⟨x,y⟩:=p
       rw [e2] at h
       simp only at h
       by_cases hv:Zp x=true
       ·simp [hv] at h
        obtain ⟨rfl,rfl⟩:=h
        have hx:x≠[]:=fun z=>by rw [z,Zj2] at hv;simp at hv
        refine ⟨?_,by simp [Zh3,hv]⟩
        conv=>lhs;rw [hb]
        rw [(Zdr e2).1]
        simp [Jk,hx]
       ·simp [hv] at h
    ·simp [h1,h2] at h
theorem Zdm (t:Nat×List UInt8):(Jk t).length=t.1+(if t.2=[] then 1 else t.2.length+2):=by
 unfold Jk
 split <;> simp
theorem Xw {l:List UInt8} {t:Nat×List UInt8} {r:List UInt8} (h:Z6 l=some (t,r)):r.length<l.length:=by
 rw [(Zac h).1,List.length_append,Zdm]
 split <;> omega
def Z7:Nat→List UInt8→Option (List (Nat×List UInt8)×List UInt8)
 | 0,_=>none
 | _+1,[]=>none
 | f+1,c::l=>if c=41 then some ([],l) else match Z6 (c::l) with
   | none=>none
   | some (t,r)=>match Z7 f r with
     | none=>none
     | some (ts,r2)=>some (t::ts,r2)
def Jl (ts:List (Nat×List UInt8)):List UInt8:=(ts.map Jk).flatten
theorem Zir {f:Nat} {l:List UInt8} {ts:List (Nat×List UInt8)} {r:List UInt8} (h:Z7 f l=some (ts,r)):l=Jl ts++41::r∧∀ t∈ts,Zh3 t=true:=by
 induction f generalizing l ts r with
 | zero=>simp [Z7] at h
 | succ f ih =>
   cases l with
   | nil=>simp [Z7] at h
   | cons c l =>
     rw [Z7] at h
     by_cases hc:c=41
     ·simp [hc] at h
      obtain ⟨rfl,rfl⟩:=h
      simp [hc,Jl]
     ·rw [if_neg hc] at h
      cases e:Z6 (c::l) with
      | none=>rw [e] at h;simp at h
      | some p =>
        obtain ⟨t,r1⟩:=p
        rw [e] at h
        simp only at h
        cases e2:Z7 f r1 with
        | none=>rw [e2] at h;simp at h
        | some p2 =>
          obtain ⟨us,r2⟩:=p2
          rw [e2] at h
          simp at h
          obtain ⟨rfl,rfl⟩:=h
          obtain ⟨q1,q2⟩:=ih e2
          obtain ⟨p1,p2⟩:=Zac e
          refine ⟨?_,fun x hx=>?_⟩
          ·rw [p1,q1];simp [Jl]
          ·rcases List.mem_cons.1 hx with rfl|hx
           ·exact p2
           ·exact q2 x hx
def Zgu (l:List UInt8):Option (Option (Nat×List UInt8)) :=
 if l=[86] then some none else match Z6 l with
  | some (t,[])=>some (some t)
  | _=>none
def Za8 (l:List UInt8):Option (List (Nat×List UInt8)×Option (Nat×List UInt8)) :=
 match l with
 | 40::r=>match Z7 (r.length+1) r with
   | none=>none
   | some (ts,q)=>match Zgu q with
     | none=>none
     | some x=>some (ts,x)
 | _=>none
end Go.Proofs.YtmafkabjjibcbaaGreat
