import Derived.Lib.IndexBytes
import Derived.Lib.PathFns
namespace Go.Proofs.YtkoogmegdfpopaaGreat
def digI (c:Int):Bool:=decide (48≤c)&&decide (c≤57)
def ltrI (c:Int):Bool:=decide (97≤c)&&decide (c≤122)||(decide (65≤c)&&decide (c≤90))||c == 95||c == 36
def Je (c:UInt8):Bool:=ltrI c.toNat||digI c.toNat
def Yn (l:List UInt8):Bool:=match l with
 | []=>false
 | c::r=>!digI c.toNat&&(c::r).all Je
def Zq:List UInt8→List (List UInt8)
 | []=>[[]]
 | c::l=>if c=47 then []::Zq l else match Zq l with
   | []=>[[c]]
   | p::ps=>(c::p)::ps
def Zk (l:List UInt8):Bool:=decide (l.length≤60)&&(Zq l).all Yn
def initL:List UInt8:=[60,105,110,105,116,62]
def Z3 (l:List UInt8):Bool:=l == initL||(decide (l.length≤60)&&Yn l)
def X8 (l:List UInt8):Int:=Lib.Pa.lastIndexByte l 47
def pkgL (l:List UInt8):List UInt8:=l.take (X8 l).toNat
theorem Qq (l:List UInt8):Zq l≠[]:=by
 cases l with
 | nil=>simp [Zq]
 | cons c l =>
   unfold Zq
   split
   ·simp
   ·split <;> simp
theorem Zam (l:List UInt8) (h:(47:UInt8) ∉ l):Zq l=[l]:=by
 induction l with
 | nil=>rfl
 | cons c l ih =>
   have hc:c≠47:=fun e=>h (by simp [e])
   have:=ih (fun m=>h (List.mem_cons_of_mem _ m))
   simp [Zq,hc,this]
theorem Zbf (a b:List UInt8) (h:(47:UInt8) ∉ a):Zq (a++47::b)=a::Zq b:=by
 induction a with
 | nil=>simp [Zq]
 | cons c l ih =>
   have hc:c≠47:=fun e=>h (by simp [e])
   have:=ih (fun m=>h (List.mem_cons_of_mem _ m))
   simp [Zq,hc,this]
theorem Yp (l:List UInt8):(Zq l).length≤l.length+1:=by
 induction l with
 | nil=>simp [Zq]
 | cons c l ih =>
   have hn:=Qq l
   unfold Zq
   split
   ·simp;omega
   ·split
    ·contradiction
    ·rename_i p ps e
     rw [e] at ih
     simp at ih ⊢
     omega
theorem Za4 (l:List UInt8) (h:Lib.indexByte l 47=-1):(47:UInt8) ∉ l:=by
 induction l with
 | nil=>simp
 | cons b l ih =>
   unfold Lib.indexByte at h
   split at h
   ·simp at h
   ·rename_i hb
    have hb':b≠47:=by simpa using hb
    split at h
    ·rename_i h1
     have:=ih (by simpa using h1)
     simp [hb'.symm,this]
    ·rename_i h1
     have:=Lib.indexByte_ge l 47
     have h1':Lib.indexByte l 47≠-1:=by simpa using h1
     omega
theorem Zci (l:List UInt8) (h:Lib.indexByte l 47≠-1):∃ a b,l=a++47::b∧(47:UInt8) ∉ a∧Lib.indexByte l 47=(a.length:Int):=by
 induction l with
 | nil=>simp [Lib.indexByte] at h
 | cons b l ih =>
   unfold Lib.indexByte at h ⊢
   by_cases hb:(b == 47)=true
   ·have hb':b=47:=by simpa using hb
    exact ⟨[],l,by simp [hb'],by simp,by simp [hb]⟩
   ·have hb':(b == 47)=false:=by simpa using hb
    have hb'':b≠47:=by simpa using hb
    simp only [hb',Bool.false_eq_true,if_false] at h ⊢
    by_cases h1:(Lib.indexByte l 47 == -1)=true
    ·simp [h1] at h
    ·have h1':Lib.indexByte l 47≠-1:=by simpa using h1
     obtain ⟨x,y,e,hx,hi⟩:=ih h1'
     refine ⟨b::x,y,by simp [e],by simp [hb''.symm,hx],?_⟩
     simp only [h1,if_false,Bool.false_eq_true]
     rw [hi];simp
theorem Zdn (l:List UInt8):-1≤X8 l∧X8 l<l.length:=Lib.Pa.lastIndexByte_bounds l 47
theorem valid_ne {l:List UInt8} (h:Zk l=true):1≤l.length:=by
 cases l with
 | nil=>revert h;decide
 | cons c r=>simp
def Zr:List UInt8→Nat×List UInt8
 | []=>(0,[])
 | c::l=>if c=91 then ((Zr l).1+1,(Zr l).2) else (0,c::l)
def semi:List UInt8→Option (List UInt8×List UInt8)
 | []=>none
 | c::l=>if c=59 then some ([],l) else match semi l with
   | none=>none
   | some (a,b)=>some (c::a,b)
def Zx (l:List UInt8):Option ((Nat×List UInt8)×List UInt8) :=
 match (Zr l).2 with
 | []=>none
 | c::r=>if c=73 then some (((Zr l).1,[]),r)
   else if c=76 then match semi r with
    | none=>none
    | some (a,b)=>if Zk a then some (((Zr l).1,a),b) else none
   else none
def Qi (t:Nat×List UInt8):List UInt8:=List.replicate t.1 91++(if t.2=[] then [73] else 76::(t.2++[59]))
def Zfk (t:Nat×List UInt8):Bool:=t.2 == []||Zk t.2
theorem Zi9 (l:List UInt8):l=List.replicate (Zr l).1 91++(Zr l).2:=by
 induction l with
 | nil=>rfl
 | cons c l ih =>
   unfold Zr
   by_cases h:c=91
   ·simp only [h,if_true,List.replicate_succ,List.cons_append]
    rw [← ih]
   ·simp [h]
theorem Zfb (a b:List UInt8) (h:(59:UInt8) ∉ a):semi (a++59::b)=some (a,b):=by
 induction a with
 | nil=>simp [semi]
 | cons c l ih =>
   have hc:c≠59:=fun e=>h (by simp [e])
   have:=ih (fun m=>h (List.mem_cons_of_mem _ m))
   simp [semi,hc,this]
theorem Zbx {l a b:List UInt8} (h:semi l=some (a,b)):l=a++59::b∧(59:UInt8) ∉ a:=by
 induction l generalizing a b with
 | nil=>simp [semi] at h
 | cons c l ih =>
   unfold semi at h
   by_cases hc:c=59
   ·simp [hc] at h
    obtain ⟨rfl,rfl⟩:=h
    simp [hc]
   ·simp only [hc,if_false] at h
    cases e:semi l with
    | none=>rw [e] at h;simp at h
    | some p =>
      obtain ⟨x,y⟩:=p
      rw [e] at h
      simp at h
      obtain ⟨rfl,rfl⟩:=h
      obtain ⟨q1,q2⟩:=ih e
      exact ⟨by rw [q1];rfl,by simp [q2];exact fun z=>hc z.symm⟩
theorem Zhh:Zk []=false:=by decide
theorem Jd {l:List UInt8} {t:Nat×List UInt8} {r:List UInt8} (h:Zx l=some (t,r)):l=Qi t++r∧Zfk t=true:=by
 have hb:=Zi9 l
 unfold Zx at h
 cases e:(Zr l).2 with
 | nil=>rw [e] at h;simp at h
 | cons c s =>
   rw [e] at h hb
   simp only at h
   by_cases h1:c=73
   ·simp [h1] at h
    obtain ⟨rfl,rfl⟩:=h
    refine ⟨?_,by simp [Zfk]⟩
    conv=>lhs;rw [hb]
    simp [Qi,h1]
   ·by_cases h2:c=76
    ·subst h2
     simp only [h1,if_false,if_true] at h
     cases e2:semi s with
     | none=>rw [e2] at h;simp at h
     | some p =>
       obtain ⟨x,y⟩:=p
       rw [e2] at h
       simp only at h
       by_cases hv:Zk x=true
       ·simp [hv] at h
        obtain ⟨rfl,rfl⟩:=h
        have hx:x≠[]:=fun z=>by rw [z,Zhh] at hv;simp at hv
        refine ⟨?_,by simp [Zfk,hv]⟩
        conv=>lhs;rw [hb]
        rw [(Zbx e2).1]
        simp [Qi,hx]
       ·simp [hv] at h
    ·simp [h1,h2] at h
theorem Zbs (t:Nat×List UInt8):(Qi t).length=t.1+(if t.2=[] then 1 else t.2.length+2):=by
 unfold Qi
 split <;> simp
theorem Y8 {l:List UInt8} {t:Nat×List UInt8} {r:List UInt8} (h:Zx l=some (t,r)):r.length<l.length:=by
 rw [(Jd h).1,List.length_append,Zbs]
 split <;> omega
def Zy:Nat→List UInt8→Option (List (Nat×List UInt8)×List UInt8)
 | 0,_=>none
 | _+1,[]=>none
 | f+1,c::l=>if c=41 then some ([],l) else match Zx (c::l) with
   | none=>none
   | some (t,r)=>match Zy f r with
     | none=>none
     | some (ts,r2)=>some (t::ts,r2)
def Qj (ts:List (Nat×List UInt8)):List UInt8:=(ts.map Qi).flatten
theorem Zf1 {f:Nat} {l:List UInt8} {ts:List (Nat×List UInt8)} {r:List UInt8} (h:Zy f l=some (ts,r)):l=Qj ts++41::r∧∀ t∈ts,Zfk t=true:=by
 induction f generalizing l ts r with
 | zero=>simp [Zy] at h
 | succ f ih =>
   cases l with
   | nil=>simp [Zy] at h
   | cons c l =>
     rw [Zy] at h
     by_cases hc:c=41
     ·simp [hc] at h
      obtain ⟨rfl,rfl⟩:=h
      simp [hc,Qj]
     ·rw [if_neg hc] at h
      cases e:Zx (c::l) with
      | none=>rw [e] at h;simp at h
      | some p =>
        obtain ⟨t,r1⟩:=p
        rw [e] at h
        simp only at h
        cases e2:Zy f r1 with
        | none=>rw [e2] at h;simp at h
        | some p2 =>
          obtain ⟨us,r2⟩:=p2
          rw [e2] at h
          simp at h
          obtain ⟨rfl,rfl⟩:=h
          obtain ⟨q1,q2⟩:=ih e2
          obtain ⟨p1,p2⟩:=Jd e
          refine ⟨?_,fun x hx=>?_⟩
          ·rw [p1,q1];simp [Qj]
          ·rcases List.mem_cons.1 hx with rfl|hx
           ·exact p2
           ·exact q2 x hx
def Zeh (l:List UInt8):Option (Option (Nat×List UInt8)) :=
 if l=[86] then some none else match Zx l with
  | some (t,[])=>some (some t)
  | _=>none
def J0 (l:List UInt8):Option (List (Nat×List UInt8)×Option (Nat×List UInt8)) :=
 match l with
 | 40::r=>match Zy (r.length+1) r with
   | none=>none
   | some (ts,q)=>match Zeh q with
     | none=>none
     | some x=>some (ts,x)
 | _=>none
end Go.Proofs.YtkoogmegdfpopaaGreat
